import PyProof.Rows.All
import Wide.All
import OpenK.AllK
import Wide.FinOn
import HandS.ForMost
import HandS.IsInst
import HandS.Sort
import HandS.Conv
import HandS.ClsMeth
import HandS.CallLocal
import HandS.Codes
import HandS.NoneIn
import HandS.Walk
import HandS.Defaults
import HandS.Strs
import HandS.SlotsOwn
import HandS.TupAny
import HandS.TupMul
import HandS.Deep
import HandS.FStr
import HandS.Zip
import HandS.TupLe
import HandS.Star
import HandS.TupSets
import KE.DataCmp
import HandS.Flow
import KE.GoesEnumKw
import KE.KUnpackStar
import HandS.WordsExc
import HandS.TryOnly
import HandS.ExcIs
import HandS.IterVal
import HandS.OwnIter
import PySem.Challenge.RW_downpass_k21_events
set_option Elab.async false
set_option linter.all false
set_option maxRecDepth 100000
set_option maxHeartbeats 4000000
namespace DP
open PySem PySem.Spec PyProof.Rows L2
def isPl (p : Addr) (h : Heap) : Prop := ∃ (n : Int) (t : Tok) (k : Nat), h.get? p = some { cls := .type "list", data := .seq #[.int n t] k }
def plO (p : Addr) : HO := .ext (isPl p)
section
variable {P : Program} {w : World} {K : PySem.W.Frag} {mg : Str → Option Value} {base : Heap} {k : Nat} {f : Addr} {fd : FuncData} {ps : List Str} {sp sp' : Sp}
/-- the same objects by another heap that differs at p alone, where neither says own or tuple -/
theorem stay_at {H H' : Hp} {h : Heap} {p a : Addr} {o : HO} (x : ObjOk P w H h a o) (e : ∀ b, b ≠ p → H b = H' b) (n1 : ∀ y, H p ≠ some (.own y)) (n2 : ∀ xs, H p ≠ some (.tup xs)) : ObjOk P w H' h a o :=
  x.stay (fun _ _ _ q => q) (fun b q => by
    have hb : b ≠ p := fun z => n1 _ (z ▸ q)
    rw [← e b hb]; exact q) (fun b xs q => by
    have hb : b ≠ p := fun z => n2 _ (z ▸ q)
    rw [← e b hb]; exact q)
theorem pl_open {H : Hp} {h : Heap} {p : Addr} (ok : HOk P w H h) (e : H p = some (plO p)) : ∃ n : Int, HOk P w (upd H p (.lst [.int n])) h := by
  obtain ⟨⟨n, t, k, g⟩, _⟩ := (show ObjOk P w H h p (.ext (isPl p)) from ok p _ e)
  refine ⟨n, fun a o q => ?_⟩
  by_cases ha : a = p
  · subst ha
    rw [upd_same] at q
    cases q
    exact ⟨(by show 1 ≤ sizeLine; decide), [.int n t], k, .cons ⟨t, rfl⟩ .nil, g⟩
  · rw [upd_ne ha] at q
    exact stay_at (p := p) (ok a o q) (fun b hb => (upd_ne hb).symm) (fun y z => by rw [e] at z; cases z) (fun y z => by rw [e] at z; cases z)
theorem pl_close {H : Hp} {h : Heap} {p : Addr} {m : Int} (ok : HOk P w H h) (e : H p = some (.lst [.int m])) : HOk P w (upd H p (plO p)) h := by
  obtain ⟨_, its, k, r, g⟩ := (show ObjOk P w H h p (.lst [.int m]) from ok p _ e)
  refine fun a o q => ?_
  by_cases ha : a = p
  · subst ha
    rw [upd_same] at q
    cases q
    cases r with
    | cons r1 r2 =>
      cases r2
      obtain ⟨t, rfl⟩ := r1
      refine ⟨⟨m, t, k, g⟩, ⟨_, g⟩, fun h1 h2 z y => ?_⟩
      obtain ⟨n', t', k', g'⟩ := z
      exact ⟨n', t', k', y _ g'⟩
  · rw [upd_ne ha] at q
    exact stay_at (p := p) (ok a o q) (fun b hb => (upd_ne hb).symm) (fun y z => by rw [e] at z; cases z) (fun y z => by rw [e] at z; cases z)
/-- a def that turns the counter, told as one that changes nothing -/
theorem hide_in (F : FnOk P w K mg base CX0 k f fd ps sp) (hl : ∀ vs H Q E, sp' vs H Q E → vs.length = ps.length)
    (hs : ∀ vs H Q E, sp' vs H Q E → ∃ p, H p = some (plO p) ∧ ∀ n : Int, sp vs (upd H p (.lst [.int n])) (fun v H' => (∃ m : Int, H' = upd H p (.lst [.int m])) ∧ Q v H) E) : FnOk P w K mg base CX0 k f fd ps sp' := by
  refine ⟨hl, fun A outer s H args us vs Q E hr he hb hv h => ?_⟩
  obtain ⟨p, ep, h1⟩ := hs vs H Q E h
  obtain ⟨n, ok⟩ := pl_open he.hok ep
  have h2 := h1 n
  have hne : ∀ b, H b = none → b ≠ p := fun b z y => by rw [y, ep] at z; cases z
  refine codeAny_mono (F.run A outer s _ args us vs _ E hr ⟨he.frames, he.mod, fun b o z => ⟨(he.bs b o z).1, by rw [upd_ne (hne b (he.bs b o z).2)]; exact (he.bs b o z).2⟩, he.bsz, he.funs, fun b z => by rw [upd_ne (hne b (he.frf b z))]; exact he.frf b z, ok, he.bare⟩ hb hv h2) fun r s' hq => ?_
  cases r with
  | error e => exact hq.elim
  | ok fl =>
    cases fl with
    | next => exact False.elim hq
    | brk => exact False.elim hq
    | cont => exact False.elim hq
    | ret u =>
      obtain ⟨v, H', os, bare, un, hok, rv, ⟨m, rfl⟩, q⟩ := hq
      refine ⟨v, H, os, bare, ⟨fun b o z n hb hx => un.keep b o z (by rw [upd_ne (hne b n)]; exact n) hb hx, fun b o z n hb hx => un.slot b o z (by rw [upd_ne (hne b n)]; exact n) hb hx, fun _ _ _ n _ => n, un.there, fun _ _ z => z, fun _ _ _ z => z, fun _ ps z => ⟨#[], by rw [z]; simp⟩⟩, ?_, rv, q⟩
      have c := pl_close hok upd_same
      rw [upd_upd] at c
      intro a o z
      have c1 := c a
      have eq : upd H p (plO p) = H := by
        funext b
        by_cases hb : b = p
        · subst hb; rw [upd_same, ep]
        · rw [upd_ne hb]
      rw [eq] at c
      exact c a o z
/-- a def that hands back a heap with such a list: from then on it is a counter -/
theorem hide_out (F : FnOk P w K mg base CX0 k f fd ps sp) (hl : ∀ vs H Q E, sp' vs H Q E → vs.length = ps.length)
    (hs : ∀ vs H Q E, sp' vs H Q E → sp vs H (fun v H' => ∃ (p : Addr) (m : Int), H p = none ∧ H' p = some (.lst [.int m]) ∧ Q v (upd H' p (plO p))) E) : FnOk P w K mg base CX0 k f fd ps sp' := by
  refine ⟨hl, fun A outer s H args us vs Q E hr he hb hv h => ?_⟩
  refine codeAny_mono (F.run A outer s _ args us vs _ E hr he hb hv (hs vs H Q E h)) fun r s' hq => ?_
  cases r with
  | error e => exact hq.elim
  | ok fl =>
    cases fl with
    | next => exact False.elim hq
    | brk => exact False.elim hq
    | cont => exact False.elim hq
    | ret u =>
      obtain ⟨v, H', os, bare, un, hok, rv, p, m, n0, ep, q⟩ := hq
      refine ⟨v, _, os, bare, ⟨un.keep, un.slot, fun b o z n hx => ?_, un.there, fun b xs z => ?_, fun b o u z => ?_, fun b ps z => ?_⟩, pl_close hok ep, rv, q⟩
      · have e1 := un.free b o z n hx
        rw [upd_ne (fun y => by rw [y, ep] at e1; cases e1)]
        exact e1
      · rw [upd_ne (ne_of_none z n0)]; exact un.tups b xs z
      · rw [upd_ne (ne_of_none z n0)]; exact un.frzs b o u z
      · rw [upd_ne (ne_of_none z n0)]; exact un.tbls b ps z
end
end DP
namespace DP
open PySem PySem.Spec PyProof.Rows L2
/-- the built-in names that the text leaves alone -/
structure Bt (mg : Str → Option Value) : Prop where
  len : mg "len" = none
  range : mg "range" = none
  int : mg "int" = none
  abs : mg "abs" = none
  isinstance : mg "isinstance" = none
  bool : mg "bool" = none
  str : mg "str" = none
  tuple : mg "tuple" = none
  list : mg "list" = none
  min : mg "min" = none
  all : mg "all" = none
  enumerate : mg "enumerate" = none
structure DefOk (P : Program) (w : World) (K : PySem.W.Frag) (mg : Str → Option Value) (base : Heap) (CX : CXT) (k : Nat) (x : Str) (ps : List Str) (sp : Sp) : Prop where
  ex : ∃ f fd, FnOk P w K mg base CX k f fd ps sp ∧ mg x = some (.ref f) ∧ PySem.W.keepIn K (.ref f) = true ∧ Binds K fd ps [] ∧ ∃ oc od osl, K.lookup f = some ⟨oc, od, .func fd, osl⟩
/-- where a def stands -/
structure At (K : PySem.W.Frag) (mg : Str → Option Value) (x : Str) (st : Stmt) (ps : List Str) : Prop where
  ex : ∃ f fd, Fun K x x st f fd ∧ mg x = some (.ref f) ∧ Binds K fd ps []
theorem pe_f {X : Cx} {CX : CXT} {k : Nat} {x : Str} {ps : List Str} {sp : Sp} {E : XK} {e : Expr} {es : List Expr} {t : TA} {p pos : Pos} (D : DefOk X.prog X.w X.K X.mg X.base CX k x ps sp) (hr : Room k X.A) (hx : Passes CX X E) (ha : PA X (e :: es) t)
    (hg : Gl X x := by rfl) (hdb : (x == ("__debug__" : Str)) = false := by decide) (he : starEach (e :: es) X.env = (false, eval e X.env) :: starEach es X.env := by rfl) (hpl : (backTo pos (starEach es X.env)).any (·.1) = false := by rfl) :
    PE X (.Call (.Name x p) (e :: es) [] pos) (tCall sp [] E t) := by
  obtain ⟨f, fd, G, m, kp, b, _⟩ := D.ex
  exact pe_call G hr hg m kp b .nil hx ha hdb he hpl
section
variable {P : Program} {w : World} {K : PySem.W.Frag} {mg : Str → Option Value} {base : Heap} {x : Str} {st : Stmt} {ps N : List Str} {k : Nat} {sp sp' : Sp}
theorem At.ok (F : At K mg x st ps) (S : FnScope N ps (defScope st)) (len : ∀ vs H Q E, sp vs H Q E → vs.length = ps.length)
    (hbody : ∀ (f : Addr) (cdv : Value) (A : Around) (outer : List Env) (s : Shared) (H : Hp) (vs : List V) (Q : VK) (E : XK), Room k (A.deeper (envOfC x (defScope st) s.heap.objs.size f cdv)) → sp vs H Q E →
      ∃ t, PSs (cxOf CX0 P w K mg base N x (defScope st) f cdv A outer s H E).nox (defBody st) t ∧ t { nx := fun _ H' => Q .non H', rt := Q } (start N vs) H) : DefOk P w K mg base CX0 (k + 1) x ps sp := by
  obtain ⟨f, fd, G, m, b⟩ := F.ex
  obtain ⟨oc, od, _, _, _, _, _, _, osl, _, lk, _⟩ := G.ex
  exact ⟨f, fd, G.ok S len (fun cdv A outer s H vs Q E hr h => hbody f cdv A outer s H vs Q E hr h), m, G.kp, b, oc, od, osl, lk⟩
/-- the law's def, for the end -/
theorem At.end_ {l : PySem.W.OpenLaw} {fa : Addr} (F : At K mg x st ["script"]) (hfa : mg x = some (.ref fa)) (h : ∀ base : Heap, DefOk l.prog w K mg base CX0 k x ["script"] sp)
    (hb : ∀ (kV doc pm : Value) (an : Option Addr) (cdv ct v : Value), bindArgs (PySem.W.fnOf x x (defArgs st) (defBody st) (defScope st) .none kV doc pm an cdv ct) ⟨[v], []⟩ = pure [(("script" : Str), v)]) :
    ∃ fd : FuncData, (∀ (s : Shared) (v : Value), BindsTo s fd ⟨[v], []⟩ [("script", v)]) ∧ ∀ base : Heap, K.In base → base.Ns mainGlobals mg → FnOk l.prog w K mg base CX0 k fa fd ["script"] sp := by
  obtain ⟨f, fd, G, m, b⟩ := F.ex
  rw [hfa] at m
  cases m
  refine ⟨fd, fun s v => ?_, fun base _ _ => ?_⟩
  · obtain ⟨oc, od, kV, doc, pm, an, cdv, ct, osl, rfl, lk, _⟩ := G.ex
    exact .of_eq (hb kV doc pm an cdv ct v)
  obtain ⟨f', fd', G', m', _, _, oc', od', osl', lk'⟩ := (h base).ex
  rw [hfa] at m'
  cases m'
  obtain ⟨oc, od, _, _, _, _, _, _, osl, _, lk, _⟩ := G.ex
  rw [lk] at lk'
  cases lk'
  exact G'
theorem DefOk.hide_in (D : DefOk P w K mg base CX0 k x ps sp) (hl : ∀ vs H Q E, sp' vs H Q E → vs.length = ps.length)
    (hs : ∀ vs H Q E, sp' vs H Q E → ∃ p, H p = some (plO p) ∧ ∀ n : Int, sp vs (upd H p (.lst [.int n])) (fun v H' => (∃ m : Int, H' = upd H p (.lst [.int m])) ∧ Q v H) E) : DefOk P w K mg base CX0 k x ps sp' := by
  obtain ⟨f, fd, G, m, kp, b, lk⟩ := D.ex
  exact ⟨f, fd, DP.hide_in G hl hs, m, kp, b, lk⟩
theorem DefOk.hide_out (D : DefOk P w K mg base CX0 k x ps sp) (hl : ∀ vs H Q E, sp' vs H Q E → vs.length = ps.length)
    (hs : ∀ vs H Q E, sp' vs H Q E → sp vs H (fun v H' => ∃ (p : Addr) (m : Int), H p = none ∧ H' p = some (.lst [.int m]) ∧ Q v (upd H' p (plO p))) E) : DefOk P w K mg base CX0 k x ps sp' := by
  obtain ⟨f, fd, G, m, kp, b, lk⟩ := D.ex
  exact ⟨f, fd, DP.hide_out G hl hs, m, kp, b, lk⟩
end
theorem at_mk {h : Heap} {K : PySem.W.Frag} {mg : Str → Option Value} (X : K.In h) (G : h.Ns mainGlobals mg) {x : Str} {st : Stmt} {ps : List Str} {f : Addr} {oc : Value} {od an : Option Addr} {osl : Array (Option Value)} {kV doc pm cdv ct : Value}
    (a : PySem.W.nsIn K mainGlobals x = some (some (.ref f))) (l : K.lookup f = some ⟨oc, od, .func (PySem.W.fnOf x x (defArgs st) (defBody st) (defScope st) .none kV doc pm an cdv ct), osl⟩)
    (c : PySem.W.codeIn K cdv x = true) (k : PySem.W.keepIn K (.ref f) = true)
    (hb : ∀ (kV doc pm : Value) (an : Option Addr) (cdv ct : Value) (us : List Value), us.length = ps.length → bindArgs (PySem.W.fnOf x x (defArgs st) (defBody st) (defScope st) .none kV doc pm an cdv ct) ⟨us, []⟩ = pure (ps.zip us)) : At K mg x st ps := by
  have F := fun_mk (st := st) l c k
  exact ⟨f, _, F, PySem.W.mg_of X G a, F.binds hb⟩
theorem same_new {H : Hp} {p : Addr} (h : H p = none) (o : HO) : Same H (upd H p o) := fun b u q => by rw [upd_ne (ne_of_none q h)]; exact q
theorem same_at {H H' : Hp} {p : Addr} (h : H p = none) (s : Same H H') (o : HO) : Same H (upd H' p o) := fun b u q => by rw [upd_ne (ne_of_none q h)]; exact s _ _ q
theorem Same.tup {K : PySem.W.Frag} {H H' : Hp} {a : Addr} {xs : List V} (e : Same H H') (h : SqT K H a xs) : SqT K H' a xs := by
  rcases h with (h | ⟨o, h⟩) | h
  · exact .inl (.inl (e _ _ h))
  · exact .inl (.inr ⟨o, e _ _ h⟩)
  · exact .inr h
theorem iteT' {c : Bool} {A B : Prop} (e : c = true) (h : A) : if c = true then A else B := by
  rw [if_pos e]
  exact h
theorem iteF' {c : Bool} {A B : Prop} (e : c = false) (h : B) : if c = true then A else B := by
  rw [e]
  exact iteF h
theorem small {n : Nat} (h : n ≤ 1000) : n ≤ sizeLine := Nat.le_of_lt (small1000 h)
section
variable {X : Cx} {K : PySem.W.Frag}
theorem ix_listK (h : X.K = K) : IxR X (rIxL K) := by subst h; exact ix_list
theorem ix_tupK (h : X.K = K) : IxR X (rIxT K) := by subst h; exact ix_tup
end
end DP
namespace DP
open PySem PySem.Spec PyProof.Rows L2
/-- a span of two ints -/
def SpanV (K : PySem.W.Frag) (H : Hp) (x : V) (q : Int × Int) : Prop := ∃ t, x = .ref t ∧ SqT K H t [.int q.1, .int q.2]
abbrev Spans (K : PySem.W.Frag) (H : Hp) (xs : List V) (qs : List (Int × Int)) : Prop := Paired (SpanV K H) xs qs
theorem paired_snoc {α β : Type} {F : α → β → Prop} : ∀ {xs : List α} {ys : List β} {x : α} {y : β}, Paired F xs ys → F x y → Paired F (xs ++ [x]) (ys ++ [y])
  | _, _, _, _, .nil, h => .cons h .nil
  | _, _, _, _, .cons a t, h => .cons a (paired_snoc t h)
theorem paired_at {α β : Type} {F : α → β → Prop} : ∀ {xs : List α} {ys : List β} {i : Nat} {x : α}, Paired F xs ys → xs[i]? = some x → ∃ y, ys[i]? = some y ∧ F x y
  | _, _, _, _, .nil, h => by simp at h
  | _, _, 0, _, .cons a _, h => ⟨_, rfl, by rw [← Option.some.inj h]; exact a⟩
  | _, _, i + 1, _, .cons _ t, h => by
    obtain ⟨y, h1, h2⟩ := paired_at (i := i) t h
    exact ⟨y, h1, h2⟩
theorem paired_len {α β : Type} {F : α → β → Prop} {xs : List α} {ys : List β} (h : Paired F xs ys) : xs.length = ys.length := Paired.length h
/-- a tuple stands where a list is changed -/
theorem sqT_upd {K : PySem.W.Frag} {H : Hp} {t L : Addr} {xs ys : List V} {o : HO} (h : SqT K H t xs) (e : H L = some (.lst ys)) : SqT K (upd H L o) t xs := by
  rcases h with (h | ⟨u, h⟩) | h
  · exact .inl (.inl (by rw [upd_ne (ne_of h e (fun z => nomatch z))]; exact h))
  · exact .inl (.inr ⟨u, by rw [upd_ne (ne_of h e (fun z => nomatch z))]; exact h⟩)
  · exact .inr h
theorem Spans.upd {K : PySem.W.Frag} {H : Hp} {L : Addr} {xs ys : List V} {qs : List (Int × Int)} {o : HO} (h : Spans K H xs qs) (e : H L = some (.lst ys)) : Spans K (L2.upd H L o) xs qs :=
  Paired.mapP h fun _ _ ⟨t, h1, h2⟩ => ⟨t, h1, sqT_upd h2 e⟩
theorem Spans.same {K : PySem.W.Frag} {H H' : Hp} {xs : List V} {qs : List (Int × Int)} (h : Spans K H xs qs) (s : Same H H') : Spans K H' xs qs :=
  Paired.mapP h fun _ _ ⟨t, h1, h2⟩ => ⟨t, h1, Same.tup s h2⟩
def hasM (m : Int) (q : Int × Int) : Bool := decide (q.1 ≤ m) && decide (m < q.2)
end DP
namespace DP
open PySem PySem.Spec PyProof.Rows L2
abbrev tl (x : Str) : List Nat := TL.tl x
def num (n : Int) : Str := Str.ofString (toString n)
/-- a word of a line -/
def WdOk (w : Str) : Prop := tl w ≠ [] ∧ 32 ∉ tl w ∧ 10 ∉ tl w ∧ (tl w).length ≤ 16
def isL (c : Nat) : Bool := (decide (65 ≤ c) && decide (c ≤ 90)) || (decide (97 ≤ c) && decide (c ≤ 122))
def isD (c : Nat) : Bool := decide (48 ≤ c) && decide (c ≤ 57)
def NameOk (w : Str) : Prop := ∃ c r, tl w = c :: r ∧ isL c = true ∧ (∀ x ∈ r, (isL x || isD x) = true) ∧ r.length ≤ 14
theorem isL_lt {c : Nat} (h : isL c = true) : 65 ≤ c ∧ c ≤ 122 := by
  unfold isL at h
  simp only [Bool.or_eq_true, Bool.and_eq_true, decide_eq_true_eq] at h
  omega
theorem isD_lt {c : Nat} (h : isD c = true) : 48 ≤ c ∧ c ≤ 57 := by
  unfold isD at h
  simp only [Bool.and_eq_true, decide_eq_true_eq] at h
  omega
theorem sign_lt {c : Nat} (h : (isL c || isD c) = true) : 48 ≤ c ∧ c ≤ 122 := by
  rcases Bool.or_eq_true _ _ ▸ h with h | h
  · have := isL_lt h; omega
  · have := isD_lt h; omega
theorem NameOk.signs {w : Str} (h : NameOk w) : ∀ c ∈ tl w, (isL c || isD c) = true := by
  obtain ⟨c, r, e, hc, hr, _⟩ := h
  intro x hx
  rw [e] at hx
  rcases List.mem_cons.mp hx with rfl | hx
  · rw [hc]; rfl
  · exact hr x hx
theorem NameOk.wd {w : Str} (h : NameOk w) : WdOk w := by
  have hs := h.signs
  obtain ⟨c, r, e, hc, hr, hl⟩ := h
  refine ⟨by rw [e]; exact List.cons_ne_nil _ _, fun z => ?_, fun z => ?_, by rw [e, List.length_cons]; omega⟩
  · have := sign_lt (hs _ z); omega
  · have := sign_lt (hs _ z); omega
theorem num_nat {n : Int} (h : 0 ≤ n) : tl (num n) = TL.numL n.toNat := by
  have e : n = ((n.toNat : Nat) : Int) := by omega
  unfold num
  rw [e]
  exact TL.tl_num _
theorem numL_len7 {n : Nat} (h : n < 10000000) : (TL.numL n).length ≤ 7 := TL.numL_len (k := 7) (by decide) (by omega)
theorem num_wd {n : Int} (h0 : 0 ≤ n) (h1 : n < 10000000) : WdOk (num n) := by
  refine ⟨?_, ?_, ?_, ?_⟩
  · rw [num_nat h0]; exact TL.numL_ne _
  · rw [num_nat h0]; exact TL.numL_free (by omega)
  · rw [num_nat h0]; exact TL.numL_free (by omega)
  · rw [num_nat h0]; exact Nat.le_trans (numL_len7 (by omega)) (by decide)
/-- 0, or no 0 ahead -/
theorem numL_head {n : Nat} : ∀ r, TL.numL n = 48 :: r → n = 0 := by
  induction n using Nat.strongRecOn with
  | _ n ih =>
    intro r h
    by_cases c : n < 10
    · rw [TL.numL_lt c] at h
      have := (List.cons.inj h).1
      omega
    · rw [TL.numL_step (by omega)] at h
      cases q : TL.numL (n / 10) with
      | nil => exact absurd q (TL.numL_ne _)
      | cons a b =>
        rw [q] at h
        have e := (List.cons.inj h).1
        have := ih (n / 10) (by omega) b (by rw [q, e])
        omega
def sp : Str := Str.ofString " "
def nl : Str := Str.ofString "\n"
theorem tl_sp : tl sp = [32] := by decide +kernel
theorem tl_nl : tl nl = [10] := by decide +kernel
def row (ws : List Str) : Str := Str.join sp ws
theorem joinL_free {c : Nat} {S : List Nat} (hS : c ∉ S) : ∀ ps : List (List Nat), (∀ p ∈ ps, c ∉ p) → c ∉ TL.joinL S ps
  | [], _ => List.not_mem_nil
  | [p], h => h p List.mem_cons_self
  | p :: q :: r, h => by
    show c ∉ p ++ (S ++ TL.joinL S (q :: r))
    have ih := joinL_free hS (q :: r) fun x hx => h x (List.mem_cons_of_mem _ hx)
    intro z
    rcases List.mem_append.mp z with z | z
    · exact h p List.mem_cons_self z
    · rcases List.mem_append.mp z with z | z
      · exact hS z
      · exact ih z
theorem joinL_len {m : Nat} {S : List Nat} : ∀ ps : List (List Nat), (∀ p ∈ ps, p.length ≤ m) → (TL.joinL S ps).length ≤ ps.length * (m + S.length)
  | [], _ => Nat.zero_le _
  | [p], h => by
    have := h p List.mem_cons_self
    show p.length ≤ 1 * (m + S.length)
    omega
  | p :: q :: r, h => by
    have ih := joinL_len (S := S) (q :: r) fun x hx => h x (List.mem_cons_of_mem _ hx)
    have h1 := h p List.mem_cons_self
    show (p ++ (S ++ TL.joinL S (q :: r))).length ≤ ((q :: r).length + 1) * (m + S.length)
    rw [List.length_append, List.length_append, Nat.add_mul]
    omega
theorem row_free {ws : List Str} (h : ∀ w ∈ ws, WdOk w) : 10 ∉ tl (row ws) := by
  unfold row
  rw [show tl (Str.join sp ws) = TL.joinL (tl sp) (ws.map tl) from TL.tl_join sp ws]
  refine joinL_free (by rw [tl_sp]; decide) _ fun p hp => ?_
  obtain ⟨w, hw, rfl⟩ := List.mem_map.mp hp
  exact (h w hw).2.2.1
theorem row_len {ws : List Str} (h : ∀ w ∈ ws, WdOk w) : (row ws).length ≤ ws.length * 17 := by
  rw [TL.len_tl]
  unfold row
  rw [show TL.tl (Str.join sp ws) = TL.joinL (tl sp) (ws.map tl) from TL.tl_join sp ws]
  have := joinL_len (m := 16) (S := tl sp) (ws.map tl) fun p hp => by
    obtain ⟨w, hw, rfl⟩ := List.mem_map.mp hp
    exact (h w hw).2.2.2
  rw [List.length_map, tl_sp] at this
  rw [tl_sp]
  exact this
theorem row_split {ws : List Str} (hn : ws ≠ []) (h : ∀ w ∈ ws, WdOk w) : Txt.split (row ws) sp = ws := by
  have e := TL.split_join (y := sp) (s := 32) (S := []) tl_sp (by decide +kernel) hn (fun p hp => (h p hp).2.1)
  rw [TL.join_eq] at e
  exact e
/-- the text of rows, each with its newline -/
def glue (rows : List Str) : Str := Str.join nl (rows ++ [Str.empty])
theorem glue_split {rows : List Str} (h : ∀ r ∈ rows, 10 ∉ tl r) : Txt.split (glue rows) nl = rows ++ [Str.empty] := by
  have e := TL.split_join (y := nl) (s := 10) (S := []) tl_nl (by decide +kernel) (parts := rows ++ [Str.empty]) (by simp) (fun p hp => by
    rcases List.mem_append.mp hp with hp | hp
    · exact h p hp
    · rw [List.mem_singleton.mp hp]
      exact List.not_mem_nil)
  rw [TL.join_eq] at e
  exact e
theorem glue_tl : ∀ rows : List Str, tl (glue rows) = (rows.map fun r => tl r ++ [10]).flatten
  | [] => rfl
  | [r] => by
    show tl (r ++ nl ++ Str.empty) = tl r ++ [10] ++ []
    rw [show tl (r ++ nl ++ Str.empty) = tl (r ++ nl) ++ tl Str.empty from TL.tl_append _ _, show tl (r ++ nl) = tl r ++ tl nl from TL.tl_append _ _, tl_nl]
    rfl
  | r :: q :: z => by
    have ih := glue_tl (q :: z)
    show tl (r ++ nl ++ Str.join nl ((q :: z) ++ [Str.empty])) = tl r ++ [10] ++ ((q :: z).map fun r => tl r ++ [10]).flatten
    rw [show tl (r ++ nl ++ Str.join nl ((q :: z) ++ [Str.empty])) = tl (r ++ nl) ++ tl (Str.join nl ((q :: z) ++ [Str.empty])) from TL.tl_append _ _, show tl (r ++ nl) = tl r ++ tl nl from TL.tl_append _ _, tl_nl, ← ih]
    rfl
/-- the law's own making of it: no separator, each row with its newline -/
theorem join_nl (rows : List Str) : Txt.join Str.empty (rows.map fun r => r ++ nl) = glue rows := by
  refine TL.ext_tl ?_
  show tl _ = tl _
  rw [glue_tl, TL.join_eq]
  rw [show tl (Str.join Str.empty (rows.map fun r => r ++ nl)) = TL.joinL (tl Str.empty) ((rows.map fun r => r ++ nl).map tl) from TL.tl_join _ _]
  rw [List.map_map]
  have e : (tl ∘ fun r : Str => r ++ nl) = fun r => tl r ++ [10] := by
    funext r
    show tl (r ++ nl) = _
    rw [show tl (r ++ nl) = tl r ++ tl nl from TL.tl_append _ _, tl_nl]
  rw [e]
  generalize (rows.map fun r => tl r ++ [10]) = ls
  have flat : ∀ ls : List (List Nat), TL.joinL (tl Str.empty) ls = ls.flatten := by
    intro ls
    induction ls with
    | nil => rfl
    | cons a r ih =>
      cases r with
      | nil =>
        show a = a ++ []
        rw [List.append_nil]
      | cons b t =>
        show a ++ ([] ++ TL.joinL (tl Str.empty) (b :: t)) = a ++ (b :: t).flatten
        rw [List.nil_append, ih]
  exact flat ls
theorem glue_len {rows : List Str} {m : Nat} (h : ∀ r ∈ rows, r.length ≤ m) : (glue rows).length ≤ (rows.length + 1) * (m + 1) := by
  rw [TL.len_tl]
  unfold glue
  rw [show TL.tl (Str.join nl (rows ++ [Str.empty])) = TL.joinL (tl nl) ((rows ++ [Str.empty]).map tl) from TL.tl_join _ _]
  have := joinL_len (m := m) (S := tl nl) ((rows ++ [Str.empty]).map tl) fun p hp => by
    obtain ⟨w, hw, rfl⟩ := List.mem_map.mp hp
    rcases List.mem_append.mp hw with hw | hw
    · have := h w hw
      rw [TL.len_tl] at this
      exact this
    · rw [List.mem_singleton.mp hw]
      exact Nat.zero_le _
  rw [List.length_map, List.length_append, tl_nl] at this
  rw [tl_nl]
  exact this
structure SatD where
  name : Str
  store : Int
  battery : Int
  level : Int
  reserve : Int
  charge : Int
  settle : Int
  light : List (Int × Int)
structure StaD where
  name : Str
  antennas : Int
  turn : Int
structure RecD where
  name : Str
  sat : Nat
  earliest : Int
  latest : Int
  length : Int
  size : Int
  energy : Int
  worth : Int
  rank : Int
  deadline : Int
structure PasD where
  name : Str
  sat : Nat
  sta : Nat
  first : Int
  fin : Int
  room : Int
  energy : Int
  fee : Int
structure WorldD where
  horizon : Int
  sats : List SatD
  stas : List StaD
  recs : List RecD
  pass : List PasD
def lightW : List (Int × Int) → List Str
  | [] => []
  | q :: r => num q.1 :: num q.2 :: lightW r
def wHor (h : Int) : List Str := [Str.ofString "horizon", num h]
def wSat (s : SatD) : List Str := [Str.ofString "satellite", s.name, Str.ofString "store", num s.store, Str.ofString "battery", num s.battery, Str.ofString "level", num s.level,
  Str.ofString "reserve", num s.reserve, Str.ofString "charge", num s.charge, Str.ofString "settle", num s.settle, Str.ofString "light"] ++ lightW s.light
def wSta (s : StaD) : List Str := [Str.ofString "station", s.name, Str.ofString "antennas", num s.antennas, Str.ofString "turn", num s.turn]
def satN (W : WorldD) (i : Nat) : Str := ((W.sats.map (·.name))[i]?).getD Str.empty
def staN (W : WorldD) (i : Nat) : Str := ((W.stas.map (·.name))[i]?).getD Str.empty
def wRec (W : WorldD) (r : RecD) : List Str := [Str.ofString "recording", r.name, Str.ofString "by", satN W r.sat, Str.ofString "from", num r.earliest, Str.ofString "to", num r.latest,
  Str.ofString "length", num r.length, Str.ofString "size", num r.size, Str.ofString "energy", num r.energy, Str.ofString "worth", num r.worth, Str.ofString "rank", num r.rank, Str.ofString "until", num r.deadline]
def wPas (W : WorldD) (p : PasD) : List Str := [Str.ofString "pass", p.name, Str.ofString "by", satN W p.sat, Str.ofString "over", staN W p.sta, Str.ofString "from", num p.first, Str.ofString "to", num p.fin,
  Str.ofString "room", num p.room, Str.ofString "energy", num p.energy, Str.ofString "fee", num p.fee]
def linesW (W : WorldD) : List (List Str) := wHor W.horizon :: (W.sats.map wSat ++ W.stas.map wSta ++ W.recs.map (wRec W) ++ W.pass.map (wPas W))
def textW (W : WorldD) : Str := glue ((linesW W).map row)
def LightOk : Int → Int → List (Int × Int) → Prop
  | _, _, [] => True
  | least, h, q :: r => least ≤ q.1 ∧ q.1 + 1 ≤ q.2 ∧ q.2 ≤ h ∧ LightOk q.2 h r
structure SatOk (h : Int) (s : SatD) : Prop where
  name : NameOk s.name
  store : 0 ≤ s.store ∧ s.store ≤ 1000000
  battery : 0 ≤ s.battery ∧ s.battery ≤ 1000000
  level : 0 ≤ s.level ∧ s.level ≤ s.battery
  reserve : 0 ≤ s.reserve ∧ s.reserve ≤ s.level
  charge : 0 ≤ s.charge ∧ s.charge ≤ 1000
  settle : 0 ≤ s.settle ∧ s.settle ≤ 60
  light : LightOk 0 h s.light
structure StaOk (s : StaD) : Prop where
  name : NameOk s.name
  antennas : 1 ≤ s.antennas ∧ s.antennas ≤ 3
  turn : 0 ≤ s.turn ∧ s.turn ≤ 60
structure RecOk (W : WorldD) (r : RecD) : Prop where
  name : NameOk r.name
  sat : r.sat < W.sats.length
  earliest : 0 ≤ r.earliest ∧ r.earliest ≤ W.horizon - 1
  latest : r.earliest ≤ r.latest ∧ r.latest ≤ r.earliest + 20 ∧ r.latest ≤ W.horizon - 1
  length : 1 ≤ r.length ∧ r.length ≤ W.horizon - r.latest
  size : 0 ≤ r.size ∧ r.size ≤ 1000000
  energy : 0 ≤ r.energy ∧ r.energy ≤ 1000000
  worth : 1 ≤ r.worth ∧ r.worth ≤ 1000
  rank : 1 ≤ r.rank ∧ r.rank ≤ 3
  deadline : 0 ≤ r.deadline ∧ r.deadline ≤ W.horizon
structure PasOk (W : WorldD) (p : PasD) : Prop where
  name : NameOk p.name
  sat : p.sat < W.sats.length
  sta : p.sta < W.stas.length
  first : 0 ≤ p.first ∧ p.first ≤ W.horizon - 1
  fin : p.first + 1 ≤ p.fin ∧ p.fin ≤ W.horizon
  room : 0 ≤ p.room ∧ p.room ≤ 1000000
  energy : 0 ≤ p.energy ∧ p.energy ≤ 1000000
  fee : 0 ≤ p.fee ∧ p.fee ≤ 1000
structure WorldOk (W : WorldD) : Prop where
  horizon : 1 ≤ W.horizon ∧ W.horizon ≤ 500
  nSats : W.sats.length ≤ 3
  nStas : W.stas.length ≤ 3
  nRecs : W.recs.length ≤ 10
  nPass : W.pass.length ≤ 10
  dSats : (W.sats.map (·.name)).Nodup
  dStas : (W.stas.map (·.name)).Nodup
  dRecs : (W.recs.map (·.name)).Nodup
  dPass : (W.pass.map (·.name)).Nodup
  sats : ∀ s ∈ W.sats, SatOk W.horizon s
  stas : ∀ s ∈ W.stas, StaOk s
  recs : ∀ r ∈ W.recs, RecOk W r
  pass : ∀ p ∈ W.pass, PasOk W p
theorem LightOk.len {h : Int} : ∀ {l : List (Int × Int)} {least : Int}, LightOk least h l → least ≤ h → (l.length : Int) ≤ h - least
  | [], least, _, hl => by show (0 : Int) ≤ h - least; omega
  | q :: r, least, ⟨h1, h2, h3, h4⟩, hl => by
    have := h4.len h3
    rw [List.length_cons]
    omega
theorem LightOk.wd {h : Int} (hh : h ≤ 500) : ∀ {l : List (Int × Int)} {least : Int}, 0 ≤ least → LightOk least h l → ∀ w ∈ lightW l, WdOk w
  | [], _, _, _, w, hw => absurd hw List.not_mem_nil
  | q :: r, least, h0, ⟨h1, h2, h3, h4⟩, w, hw => by
    rcases List.mem_cons.mp hw with rfl | hw
    · exact num_wd (by omega) (by omega)
    · rcases List.mem_cons.mp hw with rfl | hw
      · exact num_wd (by omega) (by omega)
      · exact h4.wd hh (by omega) w hw
theorem lightW_len : ∀ l : List (Int × Int), (lightW l).length = 2 * l.length
  | [] => rfl
  | q :: r => by
    show (lightW r).length + 1 + 1 = 2 * (r.length + 1)
    rw [lightW_len r]
    omega
theorem satN_at {W : WorldD} {i : Nat} (h : i < W.sats.length) : (W.sats.map (·.name))[i]? = some (satN W i) := by
  unfold satN
  rw [List.getElem?_eq_getElem (by rw [List.length_map]; exact h)]
  rfl
theorem staN_at {W : WorldD} {i : Nat} (h : i < W.stas.length) : (W.stas.map (·.name))[i]? = some (staN W i) := by
  unfold staN
  rw [List.getElem?_eq_getElem (by rw [List.length_map]; exact h)]
  rfl
theorem satN_ok {W : WorldD} (w : WorldOk W) {i : Nat} (h : i < W.sats.length) : NameOk (satN W i) := by
  obtain ⟨s, hs, e⟩ := List.mem_map.mp (List.mem_of_getElem? (satN_at h))
  rw [← e]
  exact (w.sats s hs).name
theorem staN_ok {W : WorldD} (w : WorldOk W) {i : Nat} (h : i < W.stas.length) : NameOk (staN W i) := by
  obtain ⟨s, hs, e⟩ := List.mem_map.mp (List.mem_of_getElem? (staN_at h))
  rw [← e]
  exact (w.stas s hs).name
/-- all of a list, one by one -/
theorem all_cons {P : Str → Prop} {a : Str} {l : List Str} (h : P a) (t : ∀ w ∈ l, P w) : ∀ w ∈ a :: l, P w := fun w hw => by
  rcases List.mem_cons.mp hw with rfl | hw
  · exact h
  · exact t w hw
theorem all_nil {P : Str → Prop} : ∀ w ∈ ([] : List Str), P w := fun w hw => absurd hw List.not_mem_nil
theorem all_app {P : Str → Prop} {a b : List Str} (h : ∀ w ∈ a, P w) (t : ∀ w ∈ b, P w) : ∀ w ∈ a ++ b, P w := fun w hw => (List.mem_append.mp hw).elim (h w) (t w)
theorem wHor_wd {W : WorldD} (w : WorldOk W) : ∀ x ∈ wHor W.horizon, WdOk x :=
  all_cons (by unfold WdOk; decide +kernel) (all_cons (num_wd (by have := w.horizon; omega) (by have := w.horizon; omega)) all_nil)
theorem wSat_wd {h : Int} (hh : h ≤ 500) {s : SatD} (w : SatOk h s) : ∀ x ∈ wSat s, WdOk x := by
  have h1 := w.store; have h2 := w.battery; have h3 := w.level; have h4 := w.reserve; have h5 := w.charge; have h6 := w.settle
  exact all_app (all_cons (by unfold WdOk; decide +kernel) (all_cons w.name.wd (all_cons (by unfold WdOk; decide +kernel) (all_cons (num_wd (by omega) (by omega)) (all_cons (by unfold WdOk; decide +kernel) (all_cons (num_wd (by omega) (by omega))
    (all_cons (by unfold WdOk; decide +kernel) (all_cons (num_wd (by omega) (by omega)) (all_cons (by unfold WdOk; decide +kernel) (all_cons (num_wd (by omega) (by omega)) (all_cons (by unfold WdOk; decide +kernel) (all_cons (num_wd (by omega) (by omega))
    (all_cons (by unfold WdOk; decide +kernel) (all_cons (num_wd (by omega) (by omega)) (all_cons (by unfold WdOk; decide +kernel) all_nil))))))))))))))) (w.light.wd hh (Int.le_refl 0))
theorem wSta_wd {s : StaD} (w : StaOk s) : ∀ x ∈ wSta s, WdOk x := by
  have h1 := w.antennas; have h2 := w.turn
  exact all_cons (by unfold WdOk; decide +kernel) (all_cons w.name.wd (all_cons (by unfold WdOk; decide +kernel) (all_cons (num_wd (by omega) (by omega)) (all_cons (by unfold WdOk; decide +kernel) (all_cons (num_wd (by omega) (by omega)) all_nil)))))
theorem wRec_wd {W : WorldD} (w : WorldOk W) {r : RecD} (k : RecOk W r) : ∀ x ∈ wRec W r, WdOk x := by
  have h0 := w.horizon; have h1 := k.earliest; have h2 := k.latest; have h3 := k.length; have h4 := k.size; have h5 := k.energy; have h6 := k.worth; have h7 := k.rank; have h8 := k.deadline
  exact all_cons (by unfold WdOk; decide +kernel) (all_cons k.name.wd (all_cons (by unfold WdOk; decide +kernel) (all_cons (satN_ok w k.sat).wd
    (all_cons (by unfold WdOk; decide +kernel) (all_cons (num_wd (by omega) (by omega)) (all_cons (by unfold WdOk; decide +kernel) (all_cons (num_wd (by omega) (by omega)) (all_cons (by unfold WdOk; decide +kernel) (all_cons (num_wd (by omega) (by omega))
    (all_cons (by unfold WdOk; decide +kernel) (all_cons (num_wd (by omega) (by omega)) (all_cons (by unfold WdOk; decide +kernel) (all_cons (num_wd (by omega) (by omega)) (all_cons (by unfold WdOk; decide +kernel) (all_cons (num_wd (by omega) (by omega))
    (all_cons (by unfold WdOk; decide +kernel) (all_cons (num_wd (by omega) (by omega)) (all_cons (by unfold WdOk; decide +kernel) (all_cons (num_wd (by omega) (by omega)) all_nil)))))))))))))))))))
theorem wPas_wd {W : WorldD} (w : WorldOk W) {p : PasD} (k : PasOk W p) : ∀ x ∈ wPas W p, WdOk x := by
  have h0 := w.horizon; have h1 := k.first; have h2 := k.fin; have h3 := k.room; have h4 := k.energy; have h5 := k.fee
  exact all_cons (by unfold WdOk; decide +kernel) (all_cons k.name.wd (all_cons (by unfold WdOk; decide +kernel) (all_cons (satN_ok w k.sat).wd (all_cons (by unfold WdOk; decide +kernel) (all_cons (staN_ok w k.sta).wd
    (all_cons (by unfold WdOk; decide +kernel) (all_cons (num_wd (by omega) (by omega)) (all_cons (by unfold WdOk; decide +kernel) (all_cons (num_wd (by omega) (by omega)) (all_cons (by unfold WdOk; decide +kernel) (all_cons (num_wd (by omega) (by omega))
    (all_cons (by unfold WdOk; decide +kernel) (all_cons (num_wd (by omega) (by omega)) (all_cons (by unfold WdOk; decide +kernel) (all_cons (num_wd (by omega) (by omega)) all_nil)))))))))))))))
theorem linesW_ok {W : WorldD} (w : WorldOk W) : ∀ l ∈ linesW W, l ≠ [] ∧ (∀ x ∈ l, WdOk x) ∧ l.length ≤ 1015 := by
  intro l hl
  unfold linesW at hl
  rcases List.mem_cons.mp hl with rfl | hl
  · exact ⟨List.cons_ne_nil _ _, wHor_wd w, by show 2 ≤ 1015; decide⟩
  rcases List.mem_append.mp hl with hl | hl
  · rcases List.mem_append.mp hl with hl | hl
    · rcases List.mem_append.mp hl with hl | hl
      · obtain ⟨s, hs, rfl⟩ := List.mem_map.mp hl
        have k := w.sats s hs
        refine ⟨List.cons_ne_nil _ _, wSat_wd w.horizon.2 k, ?_⟩
        have h1 := k.light.len (by have := w.horizon; omega)
        have h2 := w.horizon
        have h3 := lightW_len s.light
        have h4 : (wSat s).length = 15 + (lightW s.light).length := by
          unfold wSat
          rw [List.length_append]
          rfl
        omega
      · obtain ⟨s, hs, rfl⟩ := List.mem_map.mp hl
        exact ⟨List.cons_ne_nil _ _, wSta_wd (w.stas s hs), by show 6 ≤ 1015; decide⟩
    · obtain ⟨s, hs, rfl⟩ := List.mem_map.mp hl
      exact ⟨List.cons_ne_nil _ _, wRec_wd w (w.recs s hs), by show 20 ≤ 1015; decide⟩
  · obtain ⟨s, hs, rfl⟩ := List.mem_map.mp hl
    exact ⟨List.cons_ne_nil _ _, wPas_wd w (w.pass s hs), by show 16 ≤ 1015; decide⟩
theorem linesW_len {W : WorldD} (w : WorldOk W) : (linesW W).length ≤ 27 := by
  have h1 := w.nSats; have h2 := w.nStas; have h3 := w.nRecs; have h4 := w.nPass
  unfold linesW
  rw [List.length_cons, List.length_append, List.length_append, List.length_append, List.length_map, List.length_map, List.length_map, List.length_map]
  omega
theorem textW_len {W : WorldD} (w : WorldOk W) : (textW W).length ≤ 1000000 := by
  have h1 := glue_len (rows := (linesW W).map row) (m := 17255) fun r hr => by
    obtain ⟨l, hl, rfl⟩ := List.mem_map.mp hr
    have h2 := row_len (linesW_ok w l hl).2.1
    have h3 := (linesW_ok w l hl).2.2
    omega
  have h2 := linesW_len w
  rw [List.length_map] at h1
  have h3 : ((linesW W).length + 1) * (17255 + 1) ≤ 28 * 17256 := Nat.mul_le_mul_right _ (by omega)
  show (glue _).length ≤ _
  omega
end DP
namespace DP
open PySem PySem.Spec PyProof.Rows L2
/-- the list at a as it stands at each turn, each item in a new pair with the count from k on -/
def IteS (K : PySem.W.Frag) (a : Addr) (k : Int) : It :=
  ⟨fun i H => ∃ (xs : List V) (x : V), SqL K H a xs ∧ xs[i]? = some x,
   fun i H v H' => ∃ T x, v = .ref T ∧ H T = none ∧ H' = upd H T (.tup [.int (k + (i : Nat)), x]) ∧ ∀ xs, SqL K H a xs → xs[i]? = some x,
   fun i H => ∃ xs : List V, SqL K H a xs ∧ xs.length ≤ i⟩
theorem list_not_iter {h : Heap} {a it : Addr} {its : Array Value} {i : Nat} (l : h.IsList a its) (r : h.IsListIter it a i) : a ≠ it := fun z => by
  obtain ⟨o, ho, hc, _⟩ := l
  obtain ⟨o', ho', hc', _⟩ := r
  rw [z, ho'] at ho
  cases ho
  rw [hc] at hc'
  exact absurd hc' (by decide)
theorem turn_enumS {P : Program} {w : World} {K : PySem.W.Frag} {elts : List Expr} {kk : Nat} {tpos : Pos} (a en it : Addr) (k : Int) :
    Turn P w K (.Tuple elts kk tpos) (IteS K a k) [en, it] en (fun i h => (∃ old, IsEnum h en it (k + ((i : Nat) : Int)) old) ∧ h.IsListIter it a i ∧ en ≠ it) where
  mem := by simp
  obj := fun i h st b hb => by
    obtain ⟨⟨old, hen⟩, ⟨o, ho, hc, hd⟩, _⟩ := st
    have two : b = en ∨ b = it := by simpa using hb
    rcases two with z | z
    · subst z
      exact ⟨_, hen, fun v q => nomatch q⟩
    · subst z
      exact ⟨o, ho, fun v q => by rw [hd] at q; cases q⟩
  keep := fun i h h' st kp => by
    obtain ⟨⟨old, hen⟩, hi, hne⟩ := st
    exact ⟨⟨old, kp en (by simp) _ hen⟩, hi.at fun o q => kp it (by simp) o q, hne⟩
  item := by
    intro X hP hw hK hc i pins s σ H E I hf st hg
    subst hP hw hK
    obtain ⟨⟨old, hen⟩, hit, hne⟩ := st
    obtain ⟨xs, x, hq, hx⟩ := hg
    obtain ⟨its, rv, pl, hz⟩ := I.list hq
    obtain ⟨u, hu, ru⟩ := rv.get hx
    have en_lt : en < s.heap.objs.size := Heap.lt_size hen
    have it_lt : it < s.heap.objs.size := by
      obtain ⟨_, q, _⟩ := hit
      exact Heap.lt_size q
    have nel := list_not_iter pl.isList hit
    have Dr := Draws.list (prog := X.prog) (w := X.w) (A := X.A.in1) (I.ok.hd hc) it a nel its.toArray
    have hi : i < its.toArray.size := by
      have := (List.getElem?_eq_some_iff.mp hu).1
      simpa using this
    by_cases ea : en = a
    · exfalso
      obtain ⟨o, ho, hc', _⟩ := pl.isList
      rw [← ea, hen] at ho
      cases ho
      have e : Value.type "enumerate" = Value.type "list" := hc'
      exact absurd e (by decide)
    refine wpAny_pyNext_enum_itemC Dr hen ⟨hit, pl.isList⟩ hi hne (by simp [hne, ea]) fun x' h' tk hP ho hit' hT hsz hk => ?_
    have ex : x' = u := by
      have e1 : its.toArray[i]? = some x' := hP
      have e2 : its.toArray[i]? = some u := by simpa using hu
      exact Option.some.inj (e1.symm.trans e2)
    subst ex
    refine ⟨_, rfl, wpAny_letOwnedTupleGo_enum (s := { s with heap := h', toks := tk + 1 }) ho fun h2 hen2 sb => ?_⟩
    have hT2 : h2.get? s.heap.objs.size = some { cls := .type "tuple", data := .seq #[.int (k + (i : Int)) tk, x'] } :=
      (sb.2 _ (Nat.ne_of_gt en_lt)).trans hT
    have fresh : H s.heap.objs.size = none := I.hok.fresh (Nat.le_refl _)
    have new : ObjOk X.prog X.w (upd H s.heap.objs.size (.tup [.int (k + (i : Nat)), x])) h2 s.heap.objs.size (.tup [.int (k + (i : Nat)), x]) :=
      ⟨(by show 2 ≤ sizeLine; decide), [.int (k + (i : Int)) tk, x'], .cons ⟨_, rfl⟩ (.cons ru .nil), ⟨_, hT2, rfl, _, rfl⟩⟩
    have keepAll : ∀ b ob, b ∉ [en, it] → s.heap.get? b = some ob → h2.get? b = some ob := fun b ob hb q => by
      have n1 : b ≠ en := fun z => hb (by simp [z])
      have n2 : b ≠ it := fun z => hb (by simp [z])
      exact (sb.2 b n1).trans (hk b ob n1 n2 q)
    have I1 := I.turnedNew (t' := tk + 1) (ch := [en, it]) keepAll hf (Nat.le_refl _) new
    refine ⟨.ref s.heap.objs.size, _, I1, rfl, ⟨_, x, rfl, fresh, rfl, fun ys hy => ?_⟩, ⟨⟨x', ?_⟩, ?_, hne⟩, fun b hb => ?_⟩
    · rw [I.list_inj hy hq]
      exact hx
    · have e1 : k + ((i + 1 : Nat) : Int) = k + (i : Int) + 1 := by omega
      rw [e1]
      exact hen2
    · exact hit'.1.at fun o q => (sb.2 it (Ne.symm hne)).trans q
    · have hb' : b < s.heap.objs.size := by
        have two : b = en ∨ b = it := by simpa using hb
        rcases two with z | z
        · rw [z]; exact en_lt
        · rw [z]; exact it_lt
      rw [upd_ne (Nat.ne_of_lt hb')]
      exact (hf b hb).1
  done := by
    intro X hP hw hK hc i pins s σ H E I hf st hg
    subst hP hw hK
    obtain ⟨⟨old, hen⟩, hit, hne⟩ := st
    obtain ⟨xs, hq, hx⟩ := hg
    obtain ⟨its, rv, pl, hz⟩ := I.list hq
    have hl := rv.length
    obtain ⟨f0, f1, f2, f3, f4, f5⟩ := hf it (by simp)
    have hT : s.TypeIs (.ref en) "enumerate" := ⟨_, hen, rfl⟩
    unfold pyNext
    refine wpAny_bind (wpAny_attempt (wpAny_callSpecial?_slot (name := Str.ofString "__next__") hT F.slot_enumerate_next
      (wpAny_call_entry F.slot_enumerate_next hT F.entry_enumerate_next ?_
        (F.args_enumerate_next_1 _))))
    show wpAny _ _ (field (.ref en) 2 >>= _) _ _ _
    refine wpAny_bind (wpAny_field hen rfl (x := .ref it) rfl ?_)
    refine wpAny_bind (wpAny_nextOf_list_end (I.ok.hd hc) hit pl.isList (by simp; omega) fun h' e eb hcl => ?_)
    obtain ⟨o, ho, hcs⟩ := hcl
    refine wpAny_bind (wpAny_isInstance (T := "StopIteration") (b := true) ⟨o, ho, hcs⟩ isSubtype_stop ?_)
    exact wpAny_pure ⟨rfl, I.turned (t' := s.toks) (fun b o hb q => eb b o hb q) f0 f1 f3 f4 f5⟩
  self := fun A i s Q E st h => let ⟨⟨_, hen⟩, _⟩ := st; wpAny_pyIter_enum hen h
/-- enumerate(xs, start=k), walked into a written tuple of names -/
def iEnumS (K : PySem.W.Frag) (ta tk : TA) : TI := fun σ H R => ta σ H fun vs H1 => tk σ H1 fun zs H2 =>
  ∃ a xs k, vs = [.ref a] ∧ zs = [.int k] ∧ SqL K H2 a xs ∧ -(2 ^ 63) ≤ k ∧ k < 2 ^ 63 ∧ R (IteS K a k) H2
theorem pi_enumS {X : Cx} {e ke : Expr} {ta tk : TA} {p pos tpos kp : Pos} {elts : List Expr} {kk : Nat} (hg : Gl X "enumerate") (hm : X.mg "enumerate" = none) (ha : PA X [e] ta) (hk : PK X [⟨some "start", ke, kp⟩] tk)
    (hs : starEach [e] X.env = (false, eval e X.env) :: starEach [] X.env := by rfl) (hpl : ((backTo pos (starEach [e] X.env)).any (·.1) || (backToKw pos (keywordEach [⟨some "start", ke, kp⟩] X.env)).any (·.1.isNone)) = false := by rfl) :
    PI X (.Tuple elts kk tpos) (.Call (.Name "enumerate" p) [e] [⟨some "start", ke, kp⟩] pos) (iEnumS X.K ta tk) := by
  refine ⟨fun pins s σ H R I h => ?_⟩
  refine wpAny_Call_Name_kw (ld_blt I hg hm boot_enumerate ?_)
  refine PySem.W.callWith_of (P := fun _ => True) hpl (fun h _ => ⟨.machine, .inr (.inl rfl), PySem.W.Looks.of_pure rfl⟩) (evalArgs_kw2 (by rfl)
    (thn (ha.run pos pins s σ H _ I h) fun us s1 ⟨vs, H1, I1, r1, q1⟩ => thn (hk.run pos pins s1 σ H1 _ I1 q1) fun ws s2 ⟨zs, H2, I2, r2, q2⟩ => ⟨True.intro, ?_⟩) hs)
  obtain ⟨a, xs, k, ex, ez, hq, b1, b2, q⟩ := q2
  subst ex ez
  obtain ⟨u, eu, ru⟩ := vals1 r1
  obtain ⟨z, ez, rz⟩ := vals1 r2
  subst eu ez
  cases ru
  obtain ⟨t, et⟩ := (show ∃ t, z = Value.int k t from rz)
  subst et
  obtain ⟨its, rv, pl, hz⟩ := I2.list hq
  show wpAny _ _ (call (.type "enumerate") [.ref a] [(Str.ofString "start", .int k t)]) _ _ _
  refine enum_begins_start (begins_list a its.toArray) pl.isList b1 b2 fun h' hen hit hsz hkp => wpAny_pyIter_enum hen ?_
  have I3 : Inv X pins σ H2 { s2 with heap := h' } := I2.kept (t' := s2.toks) hkp
  refine ⟨s2.heap.objs.size + 1, [s2.heap.objs.size + 1, s2.heap.objs.size], _, _, H2, rfl, I3, turn_enumS a (s2.heap.objs.size + 1) s2.heap.objs.size k,
    ⟨⟨.none, ?_⟩, ⟨_, hit, rfl, rfl⟩, Nat.succ_ne_self _⟩, fun b hb => ?_, q⟩
  · show IsEnum h' _ _ (k + 0) _
    rw [Int.add_zero]
    exact hen
  · have two : b = s2.heap.objs.size + 1 ∨ b = s2.heap.objs.size := by simpa using hb
    have hle : s2.heap.objs.size ≤ b := by
      rcases two with z | z
      · rw [z]; exact Nat.le_add_right _ 1
      · rw [z]; exact Nat.le_refl _
    exact I2.fpOk hle (I2.hok.fresh hle)
theorem walk_enumS {K : PySem.W.Frag} {a : Addr} {k : Int} {xs : List V} :
    Walk (IteS K a k) xs.length (fun H => SqL K H a xs) (fun i H v H' => ∃ T x, v = .ref T ∧ H T = none ∧ H' = upd H T (.tup [.int (k + (i : Nat)), x]) ∧ xs[i]? = some x) :=
  ⟨fun i H hi q => ⟨xs, xs[i], q, List.getElem?_eq_getElem hi⟩, fun H q => ⟨xs, q, Nat.le_refl _⟩, fun i H v H' hi q ⟨T, x, e1, e2, e3, e4⟩ => ⟨T, x, e1, e2, e3, e4 xs q⟩⟩
theorem same_mk {H H' : Hp} {x dx : Addr} {o u : HO} (hx : H x = none) (hd : H dx = none) (s : ∀ b v, b ≠ x → (upd (upd H dx o) x u) b = some v → H' b = some v) : Same H H' := fun b v e => by
  have n1 : b ≠ x := ne_of_none e hx
  exact s b v n1 (by rw [upd_ne n1, upd_ne (ne_of_none e hd)]; exact e)
end DP
namespace DP
open PySem PySem.Spec PyProof.Rows L2
structure ClsAt (K : PySem.W.Frag) (mg : Str → Option Value) (x : Str) (C : Addr) : Prop where
  cl : Cls K C
  mkC : PySem.W.makesIn K C = true
  kp : PySem.W.keepIn K (.ref C) = true
  gC : mg x = some (.ref C)
structure MAt (K : PySem.W.Frag) (C : Addr) (m qual : Str) (st : Stmt) (ps : List Str) : Prop where
  ex : ∃ f fd, Fun K m qual st f fd ∧ Meth K C m f ∧ Binds K fd ps []
structure MDef (P : Program) (w : World) (K : PySem.W.Frag) (mg : Str → Option Value) (base : Heap) (CX : CXT) (k : Nat) (C : Addr) (m : Str) (ps : List Str) (ds : List V) (sp : Sp) : Prop where
  ex : ∃ f fd us, FnOk P w K mg base CX k f fd ps sp ∧ Meth K C m f ∧ Binds K fd ps us ∧ Vals ds us
section
variable {X : Cx} {CX : CXT} {k : Nat} {C : Addr} {x m : Str} {ps : List Str} {ds : List V} {sp : Sp} {E : XK} {o e : Expr} {es : List Expr} {ta : TE} {t : TA} {p pos apos : Pos} {pl : Sem Bool}
theorem pe_m (D : MDef X.prog X.w X.K X.mg X.base CX k C m ps ds sp) (c : Cls X.K C) (hr : Room k X.A) (hx : Passes CX X E) (he : PE X o ta) (ha : PA X (e :: es) t)
    (hst : starEach (e :: es) X.env = (false, eval e X.env) :: starEach es X.env := by rfl) (hpl : (backTo pos (starEach es X.env)).any (·.1) = false := by rfl)
    (ht : eval (.Call (.Attribute o m apos) (e :: es) [] pos) X.env = (do
      let ov ← eval o X.env
      standAt apos.atName
      let (f, first) ← holding [ov] (getMethod ov m pl)
      callWith pos f first (backTo pos (starEach (e :: es) X.env)) (backToKw pos (keywordEach [] X.env))) := by rfl) :
    PE X (.Call (.Attribute o m apos) (e :: es) [] pos) (tMeth C m sp ds E ta t) := by
  obtain ⟨f, fd, us, G, M, b, v⟩ := D.ex
  exact pe_meth (pl := pl) he c M G hr b v hx ha hst hpl ht
theorem pe_m0 (D : MDef X.prog X.w X.K X.mg X.base CX k C m ps ds sp) (c : Cls X.K C) (hr : Room k X.A) (hx : Passes CX X E) (he : PE X o ta)
    (ht : eval (.Call (.Attribute o m apos) [] [] pos) X.env = (do
      let ov ← eval o X.env
      standAt apos.atName
      let (f, first) ← holding [ov] (getMethod ov m pl)
      callWith pos f first (backTo pos (starEach [] X.env)) (backToKw pos (keywordEach [] X.env))) := by rfl) :
    PE X (.Call (.Attribute o m apos) [] [] pos) (tMeth C m sp ds E ta tNil) := by
  obtain ⟨f, fd, us, G, M, b, v⟩ := D.ex
  exact pe_meth0 (pl := pl) he c M G hr b v hx ht
theorem pe_mk (D : MDef X.prog X.w X.K X.mg X.base CX k C "__init__" ps ds sp) (c : ClsAt X.K X.mg x C) (hr : Room (k + 1) X.A) (hx : Passes CX X E) (ha : PA X (e :: es) t) (hg : Gl X x := by rfl)
    (hdb : (x == ("__debug__" : Str)) = false := by decide) (he : starEach (e :: es) X.env = (false, eval e X.env) :: starEach es X.env := by rfl) (hpl : (backTo pos (starEach es X.env)).any (·.1) = false := by rfl) :
    PE X (.Call (.Name x p) (e :: es) [] pos) (tMake C sp ds E t) := by
  obtain ⟨f, fd, us, G, M, b, v⟩ := D.ex
  exact pe_make ⟨c.mkC, M.at_, M.fn, c.kp⟩ G hr hg c.gC b v hx ha hdb he hpl
/-- a constant of the module -/
theorem pe_gi {i : Int} (h : ∃ t, X.mg x = some (.int i t)) (hg : Gl X x := by rfl) (hd : (x == ("__debug__" : Str)) = false := by decide) : PE X (.Name x pos) (tC (.int i)) := by
  obtain ⟨t, h⟩ := h
  exact pe_glob hg h ⟨t, rfl⟩ hd
theorem pe_gs {z : Str} (h : ∃ t, X.mg x = some (.str z t)) (hg : Gl X x := by rfl) (hd : (x == ("__debug__" : Str)) = false := by decide) : PE X (.Name x pos) (tC (.str z)) := by
  obtain ⟨t, h⟩ := h
  exact pe_glob hg h ⟨t, rfl⟩ hd
theorem pe_ga {a : Addr} (h : X.mg x = some (.ref a)) (hg : Gl X x := by rfl) (hd : (x == ("__debug__" : Str)) = false := by decide) : PE X (.Name x pos) (tC (.ref a)) := pe_glob hg h rfl hd
end
/-- a method with one default -/
structure MAtD (K : PySem.W.Frag) (C : Addr) (m qual : Str) (st : Stmt) (ps : List Str) (ds : List V) : Prop where
  ex : ∃ f fd us, FunD K m qual (defArgs st) (defBody st) (defScope st) ds [] f fd ∧ Meth K C m f ∧ Binds K fd ps us ∧ Vals ds us
theorem pe_fldK {X : Cx} {K : PySem.W.Frag} (h : X.K = K) {e : Expr} {ta : TE} {f : Str} {pos : Pos} (he : PE X e ta) (hb : attributeBase e f X.env (eval e X.env) = eval e X.env) : PE X (.Attribute e f pos) (tFld K ta f) := by
  subst h
  exact pe_fld he hb
theorem pg_tupK {X : Cx} {K : PySem.W.Frag} (h : X.K = K) {es : List Expr} {k n : Nat} {pos : Pos} {g : TGs} (hc : X.calm = true) (hs : PGs X es g)
    (hn : (assignEach es X.env).length = n := by rfl) (hst : (assignEach es X.env).findIdx? (·.1) = none := by rfl) : PG X (.Tuple es k pos) (gTup K n g) := by
  subst h
  exact pg_tup hc hs hn hst
section
variable {P : Program} {w : World} {K : PySem.W.Frag} {mg : Str → Option Value} {base : Heap} {C : Addr} {m qual : Str} {st : Stmt} {ps N : List Str} {k : Nat} {sp sp' : Sp} {ds : List V}
theorem MAt.ok (F : MAt K C m qual st ps) (S : FnScope N ps (defScope st)) (len : ∀ vs H Q E, sp vs H Q E → vs.length = ps.length)
    (hbody : ∀ (f : Addr) (cdv : Value) (A : Around) (outer : List Env) (s : Shared) (H : Hp) (vs : List V) (Q : VK) (E : XK), Room k (A.deeper (envOfC qual (defScope st) s.heap.objs.size f cdv)) → sp vs H Q E →
      ∃ t, PSs (cxOf CX0 P w K mg base N qual (defScope st) f cdv A outer s H E).nox (defBody st) t ∧ t { nx := fun _ H' => Q .non H', rt := Q } (start N vs) H) : MDef P w K mg base CX0 (k + 1) C m ps [] sp := by
  obtain ⟨f, fd, G, M, b⟩ := F.ex
  exact ⟨f, fd, [], G.ok S len (fun cdv A outer s H vs Q E hr h => hbody f cdv A outer s H vs Q E hr h), M, b, .nil⟩
theorem MAtD.ok (F : MAtD K C m qual st ps ds) (S : FnScope N ps (defScope st)) (len : ∀ vs H Q E, sp vs H Q E → vs.length = ps.length)
    (hbody : ∀ (f : Addr) (cdv : Value) (A : Around) (outer : List Env) (s : Shared) (H : Hp) (vs : List V) (Q : VK) (E : XK), Room k (A.deeper (envOfC qual (defScope st) s.heap.objs.size f cdv)) → sp vs H Q E →
      ∃ t, PSs (cxOf CX0 P w K mg base N qual (defScope st) f cdv A outer s H E).nox (defBody st) t ∧ t { nx := fun _ H' => Q .non H', rt := Q } (start N vs) H) : MDef P w K mg base CX0 (k + 1) C m ps ds sp := by
  obtain ⟨f, fd, us, G, M, b, v⟩ := F.ex
  refine ⟨f, fd, us, G.ok S len (fun cdv A outer s H vs Q E hr h => ?_), M, b, v⟩
  obtain ⟨t, h1, h2⟩ := hbody f cdv A outer s H vs Q E hr h
  exact ⟨t, h1.nox, h2⟩
end
theorem lk_hit {a : Str} {b : V} {es : List (Str × V)} : List.lookup a ((a, b) :: es) = some b := by
  unfold List.lookup
  rw [beq_self_eq_true]
theorem lk_miss {a k : Str} {b : V} {es : List (Str × V)} (h : (a == k) = false) : List.lookup a ((k, b) :: es) = List.lookup a es := by
  show (match a == k with | true => some b | false => List.lookup a es) = _
  rw [h]
theorem put_hit {f : Str} {v x : V} {r : List (Str × V)} : putF f v ((f, x) :: r) = (f, v) :: r := by
  show (if f = f then _ else _) = _
  rw [if_pos rfl]
theorem put_miss {f g : Str} {v x : V} {r : List (Str × V)} (h : (g == f) = false) : putF f v ((g, x) :: r) = (g, x) :: putF f v r := by
  have h1 : ¬ g = f := fun z => by
    rw [z, beq_self_eq_true] at h
    cases h
  show (if g = f then _ else _) = _
  rw [if_neg h1]
theorem put_nil {f : Str} {v : V} : putF f v [] = [(f, v)] := rfl
theorem put_lt {f : Str} {v : V} {k m : Nat} : ∀ {fs : List (Str × V)}, fs.length + (k + 1) < m → (putF f v fs).length + k < m
  | [], h => by
    show 1 + k < m
    have : 0 + (k + 1) < m := h
    omega
  | (g, x) :: r, h => by
    rw [List.length_cons] at h
    show (if g = f then (g, v) :: r else (g, x) :: putF f v r).length + k < m
    by_cases c : g = f
    · rw [if_pos c, List.length_cons]
      omega
    · rw [if_neg c, List.length_cons]
      have := put_lt (f := f) (v := v) (k := k + 1) (m := m) (fs := r) (by omega)
      omega
theorem put_lt0 {f : Str} {v : V} {m : Nat} {fs : List (Str × V)} (h : fs.length + 1 < m) : (putF f v fs).length < m := put_lt (k := 0) h
theorem ins_ne {H : Hp} {a b C D dx dy : Addr} {fs gs : List (Str × V)} (h : H a = some (.ins C dx fs)) (h' : H b = some (.ins D dy gs)) (n : fs.length ≠ gs.length) : a ≠ b := fun z => by
  rw [z, h'] at h
  injection h with h
  injection h with h1 h2 h3
  exact n (by rw [h3])
/-- all that stood but a is as it was -/
def SameX (a : Addr) (H H' : Hp) : Prop := ∀ b o, b ≠ a → H b = some o → H' b = some o
theorem SameX.refl (a : Addr) (H : Hp) : SameX a H H := fun _ _ _ h => h
theorem SameX.trans {a : Addr} {H H1 H2 : Hp} (x : SameX a H H1) (y : SameX a H1 H2) : SameX a H H2 := fun b o n h => y b o n (x b o n h)
theorem SameX.of {a : Addr} {H H' : Hp} (s : Same H H') : SameX a H H' := fun b o _ h => s b o h
theorem SameX.upd {a : Addr} {H : Hp} {o : HO} : SameX a H (L2.upd H a o) := fun b u n h => by rw [upd_ne n]; exact h
theorem SameX.at_ {a : Addr} {H H' : Hp} {o : HO} (x : SameX a H H') : SameX a H (L2.upd H' a o) := fun b u n h => by rw [upd_ne n]; exact x b u n h
end DP
namespace DP
open PySem PySem.Spec PyProof.Rows L2
def topS (i : Nat) : Stmt := PySem.Challenge.pw_downpass_k21_events.main.body.getD i (.Pass ⟨0, 0, 0, 0⟩)
end DP
namespace DP
open PySem PySem.Spec PyProof.Rows L2
abbrev s_lines_of : Stmt := topS 11
theorem sc_lines_of : FnScope ["text", "rows", "last", "number", "row"] ["text"] (defScope s_lines_of) := ⟨rfl, rfl, rfl, by decide +kernel, rfl, by decide +kernel, by decide +kernel⟩
abbrev s_is_name : Stmt := topS 12
theorem sc_is_name : FnScope ["word", "letter"] ["word"] (defScope s_is_name) := ⟨rfl, rfl, rfl, by decide +kernel, rfl, by decide +kernel, by decide +kernel⟩
abbrev s_is_number : Stmt := topS 13
theorem sc_is_number : FnScope ["word", "letter"] ["word"] (defScope s_is_number) := ⟨rfl, rfl, rfl, by decide +kernel, rfl, by decide +kernel, by decide +kernel⟩
abbrev s_Line___init__ : Stmt := inClass (topS 14) 0
theorem sc_Line___init__ : FnScope ["self", "number", "row"] ["self", "number", "row"] (defScope s_Line___init__) := ⟨rfl, rfl, rfl, by decide +kernel, rfl, by decide +kernel, by decide +kernel⟩
abbrev s_Line_has_more : Stmt := inClass (topS 14) 2
theorem sc_Line_has_more : FnScope ["self"] ["self"] (defScope s_Line_has_more) := ⟨rfl, rfl, rfl, by decide +kernel, rfl, by decide +kernel, by decide +kernel⟩
abbrev s_Line_due : Stmt := inClass (topS 14) 3
theorem sc_Line_due : FnScope ["self", "word"] ["self"] (defScope s_Line_due) := ⟨rfl, rfl, rfl, by decide +kernel, rfl, by decide +kernel, by decide +kernel⟩
abbrev s_Line_step : Stmt := inClass (topS 14) 4
theorem sc_Line_step : FnScope ["self"] ["self"] (defScope s_Line_step) := ⟨rfl, rfl, rfl, by decide +kernel, rfl, by decide +kernel, by decide +kernel⟩
abbrev s_Line_read_choice : Stmt := inClass (topS 14) 5
theorem sc_Line_read_choice : FnScope ["self", "choices", "word"] ["self", "choices"] (defScope s_Line_read_choice) := ⟨rfl, rfl, rfl, by decide +kernel, rfl, by decide +kernel, by decide +kernel⟩
abbrev s_Line_read_number : Stmt := inClass (topS 14) 6
theorem sc_Line_read_number : FnScope ["self", "least", "most", "word", "number"] ["self", "least", "most"] (defScope s_Line_read_number) := ⟨rfl, rfl, rfl, by decide +kernel, rfl, by decide +kernel, by decide +kernel⟩
abbrev s_Line_read_field : Stmt := inClass (topS 14) 7
theorem sc_Line_read_field : FnScope ["self", "word", "least", "most"] ["self", "word", "least", "most"] (defScope s_Line_read_field) := ⟨rfl, rfl, rfl, by decide +kernel, rfl, by decide +kernel, by decide +kernel⟩
abbrev s_Line_due_name : Stmt := inClass (topS 14) 8
theorem sc_Line_due_name : FnScope ["self", "word"] ["self"] (defScope s_Line_due_name) := ⟨rfl, rfl, rfl, by decide +kernel, rfl, by decide +kernel, by decide +kernel⟩
abbrev s_Line_read_new_name : Stmt := inClass (topS 14) 9
theorem sc_Line_read_new_name : FnScope ["self", "used", "word"] ["self", "used"] (defScope s_Line_read_new_name) := ⟨rfl, rfl, rfl, by decide +kernel, rfl, by decide +kernel, by decide +kernel⟩
abbrev s_Line_read_known_name : Stmt := inClass (topS 14) 10
theorem sc_Line_read_known_name : FnScope ["self", "names", "least", "word", "number"] ["self", "names", "least"] (defScope s_Line_read_known_name) := ⟨rfl, rfl, rfl, by decide +kernel, rfl, by decide +kernel, by decide +kernel⟩
abbrev s_Line_finish : Stmt := inClass (topS 14) 11
theorem sc_Line_finish : FnScope ["self"] ["self"] (defScope s_Line_finish) := ⟨rfl, rfl, rfl, by decide +kernel, rfl, by decide +kernel, by decide +kernel⟩
def lnF (n : Int) (wl : Addr) (r : Nat) (c : Int) : List (Str × V) := [("number", .int n), ("words", .ref wl), ("read", .int r), ("column", .int c)]
theorem lnF_words {n : Int} {wl : Addr} {r : Nat} {c : Int} : (lnF n wl r c).lookup ("words" : Str) = some (.ref wl) := by unfold lnF; exact (lk_miss (by decide +kernel)).trans lk_hit
theorem lnF_read {n : Int} {wl : Addr} {r : Nat} {c : Int} : (lnF n wl r c).lookup ("read" : Str) = some (.int r) := by
  unfold lnF; exact (lk_miss (by decide +kernel)).trans ((lk_miss (by decide +kernel)).trans lk_hit)
theorem lnF_column {n : Int} {wl : Addr} {r : Nat} {c : Int} : (lnF n wl r c).lookup ("column" : Str) = some (.int c) := by
  unfold lnF; exact (lk_miss (by decide +kernel)).trans ((lk_miss (by decide +kernel)).trans ((lk_miss (by decide +kernel)).trans lk_hit))
theorem lnF_no {n : Int} {wl : Addr} {r : Nat} {c : Int} {m : Str} (h1 : (m == ("number" : Str)) = false) (h2 : (m == ("words" : Str)) = false) (h3 : (m == ("read" : Str)) = false) (h4 : (m == ("column" : Str)) = false) : (lnF n wl r c).lookup m = none := by
  unfold lnF
  exact (lk_miss h1).trans ((lk_miss h2).trans ((lk_miss h3).trans ((lk_miss h4).trans rfl)))
theorem lnF_put_column {n : Int} {wl : Addr} {r : Nat} {c d : Int} : putF "column" (.int d) (lnF n wl r c) = lnF n wl r d := by
  unfold lnF
  rw [put_miss (by decide +kernel), put_miss (by decide +kernel), put_miss (by decide +kernel), put_hit]
theorem lnF_put_read {n : Int} {wl : Addr} {r q : Nat} {c : Int} : putF "read" (.int q) (lnF n wl r c) = lnF n wl q c := by
  unfold lnF
  rw [put_miss (by decide +kernel), put_miss (by decide +kernel), put_hit]
/-- the line at a, its words ws, r of them passed -/
structure LnAt (C : Addr) (H : Hp) (a : Addr) (ws : List Str) (r : Nat) : Prop where
  ex : ∃ dx n wl c, H a = some (.ins C dx (lnF n wl r c)) ∧ H wl = some (.lst (ws.map V.str))
  ok : ∀ w ∈ ws, WdOk w
theorem LnAt.same {C : Addr} {H H' : Hp} {a : Addr} {ws : List Str} {r : Nat} (h : LnAt C H a ws r) (s : Same H H') : LnAt C H' a ws r := by
  obtain ⟨dx, n, wl, c, h1, h2⟩ := h.ex
  exact ⟨⟨dx, n, wl, c, s _ _ h1, s _ _ h2⟩, h.ok⟩
theorem map_at {ws : List Str} {i : Nat} {w : Str} (h : ws[i]? = some w) : atI (ws.map V.str) (i : Int) = some (.str w) := atI_nat (by rw [List.getElem?_map, h]; rfl)
theorem wd_ne {w : Str} (h : WdOk w) : ¬ w = Str.ofString "" := fun z => h.1 (by rw [z]; decide +kernel)
theorem wd_len {w : Str} (h : WdOk w) : w.length ≤ 16 := by rw [TL.len_tl]; exact h.2.2.2
/-- what the text tells of the class Line and its module -/
structure TxtL (K : PySem.W.Frag) (mg : Str → Option Value) (C : Addr) : Prop where
  B : Bt mg
  c_Line : ClsAt K mg "Line" C
  n_number : NoAttr K C "number"
  n_words : NoAttr K C "words"
  n_read : NoAttr K C "read"
  n_column : NoAttr K C "column"
  g_LETTERS : ∃ t, mg "LETTERS" = some (.str "abcdefghijklmnopqrstuvwxyzABCDEFGHIJKLMNOPQRSTUVWXYZ" t)
  g_DIGITS : ∃ t, mg "DIGITS" = some (.str "0123456789" t)
  g_MOST_NAME : ∃ t, mg "MOST_NAME" = some (.int 15 t)
  g_MOST_DIGITS : ∃ t, mg "MOST_DIGITS" = some (.int 7 t)
section
variable {P : Program} {w : World} {K : PySem.W.Frag} {mg : Str → Option Value} {base : Heap} {C : Addr}
def spLnInit (C : Addr) : Sp := fun vs H Q _ => ∃ (x dx : Addr) (n : Int) (ws : List Str), vs = [.ref x, .int n, .str (row ws)] ∧ H x = some (.ins C dx []) ∧ ws ≠ [] ∧ (∀ w ∈ ws, WdOk w) ∧ ws.length ≤ 2000 ∧
  ∀ H', SameX x H H' → LnAt C H' x ws 0 → Q .non H'
theorem d_Line_init (T : TxtL K mg C) (A : MAt K C "__init__" "Line.__init__" s_Line___init__ ["self", "number", "row"]) : MDef P w K mg base CX0 1 C "__init__" ["self", "number", "row"] [] (spLnInit C) := by
  refine A.ok sc_Line___init__ (fun vs H Q E h => ?_) (fun f cdv A outer s H vs Q E hr h => ?_)
  · obtain ⟨x, dx, n, ws, rfl, _⟩ := h
    rfl
  obtain ⟨x, dx, n, ws, rfl, hx, hn, hok, hlen, q⟩ := h
  refine ⟨_, pss_cons (ps_fld (pv 0) (pv 1) rfl)
  (pss_cons (ps_fld (pv 0) (pe_split (pv 2) pe_str) rfl)
  (pss_cons (ps_fld (pv 0) pe_int rfl)
  (pss_one (ps_fld (pv 0) pe_int rfl))))
    , ?_⟩
  have hl := row_len hok
  refine ⟨_, rfl, _, rfl, x, C, dx, _, rfl, hx, T.c_Line.cl, T.n_number, (by show 0 < 1000; decide), ?_⟩
  refine ⟨_, rfl, ⟨_, rfl⟩, _, sp, rfl, rfl, by decide +kernel, Nat.le_trans (Nat.add_le_add_right (Nat.le_trans hl (Nat.mul_le_mul_right 17 hlen)) 2) (by decide), fun wl hwl => ?_⟩
  have exw : x ≠ wl := fun z => by
    rw [← z, upd_same] at hwl
    cases hwl
  refine ⟨_, rfl, x, C, dx, _, rfl, (upd_ne exw).trans upd_same, T.c_Line.cl, T.n_words, (by repeat (first | refine put_lt0 ?_ | refine put_lt ?_ | (show _ < _; decide))), ?_⟩
  refine ⟨_, rfl, x, C, dx, _, rfl, upd_same, T.c_Line.cl, T.n_read, (by repeat (first | refine put_lt0 ?_ | refine put_lt ?_ | (show _ < _; decide))), ?_⟩
  refine ⟨_, rfl, x, C, dx, _, rfl, upd_same, T.c_Line.cl, T.n_column, (by repeat (first | refine put_lt0 ?_ | refine put_lt ?_ | (show _ < _; decide))), ?_⟩
  have hwl0 : H wl = none := by
    rw [upd_ne exw.symm] at hwl
    exact hwl
  refine q _ (fun b o nb hb => ?_) ⟨⟨dx, n, wl, 1, ?_, ?_⟩, hok⟩
  · rw [upd_ne nb, upd_ne nb, upd_ne nb, upd_ne (ne_of_none hb hwl0), upd_ne nb]
    exact hb
  · rw [upd_same]
    unfold lnF
    repeat (first | rw [put_nil] | rw [put_miss (by decide +kernel)])
    rfl
  · rw [upd_ne exw.symm, upd_ne exw.symm, upd_ne exw.symm, upd_same, row_split hn hok]
def spHasMore (C : Addr) : Sp := fun vs H Q _ => ∃ (a : Addr) (ws : List Str) (r : Nat), vs = [.ref a] ∧ LnAt C H a ws r ∧ Q (.bl (decide (r < ws.length))) H
theorem d_has_more (T : TxtL K mg C) (A : MAt K C "has_more" "Line.has_more" s_Line_has_more ["self"]) : MDef P w K mg base CX0 1 C "has_more" ["self"] [] (spHasMore C) := by
  have B := T.B
  refine A.ok sc_Line_has_more (fun vs H Q E h => ?_) (fun f cdv A outer s H vs Q E hr h => ?_)
  · obtain ⟨a, ws, r, rfl, _⟩ := h
    rfl
  obtain ⟨a, ws, r, rfl, hL, q⟩ := h
  obtain ⟨dx, n, wl, c, h1, h2⟩ := hL.ex
  refine ⟨_, pss_one (ps_ret (pe_cmpR op_lt (pe_fld (pv 0) rfl) (pe_callB (call_len_seq) (by rfl) B.len (by decide +kernel) (pa_cons (pe_fld (pv 0) rfl) pa_nil)) (nomark _)))
    , ?_⟩
  refine ⟨_, rfl, a, C, dx, _, _, rfl, h1, T.c_Line.cl, T.n_read, lnF_read, _, rfl, a, C, dx, _, _, rfl, h1, T.c_Line.cl, T.n_words, lnF_words, wl, _, rfl, .inl (SqL.of h2), _, _, rfl, rfl, ?_⟩
  have e : decide ((r : Int) < (((ws.map V.str).length : Nat) : Int)) = decide (r < ws.length) := by
    rw [List.length_map]
    exact decide_eq_decide.mpr (by omega)
  show Q (.bl (decide ((r : Int) < (((ws.map V.str).length : Nat) : Int)))) H
  rw [e]
  exact q
def spDue (C : Addr) : Sp := fun vs H Q _ => ∃ (a : Addr) (ws : List Str) (r : Nat) (u : Str), vs = [.ref a] ∧ LnAt C H a ws r ∧ ws[r]? = some u ∧ Q (.str u) H
theorem d_due (T : TxtL K mg C) (D_Line_has_more : MDef P w K mg base CX0 1 C "has_more" ["self"] [] (spHasMore C)) (A : MAt K C "due" "Line.due" s_Line_due ["self"]) : MDef P w K mg base CX0 2 C "due" ["self"] [] (spDue C) := by
  have B := T.B
  refine A.ok sc_Line_due (fun vs H Q E h => ?_) (fun f cdv A outer s H vs Q E hr h => ?_)
  · obtain ⟨a, ws, r, u, rfl, _⟩ := h
    rfl
  obtain ⟨a, ws, r, u, rfl, hL, hu, q⟩ := h
  obtain ⟨dx, n, wl, c, h1, h2⟩ := hL.ex
  have hr' : r < ws.length := (List.getElem?_eq_some_iff.mp hu).1
  refine ⟨_, pss_cons (ps_if (pt_not (pt_val (pe_m0 D_Line_has_more T.c_Line.cl (hr.mono (by omega)) pass0 (pv 0))))
      (pss_one (ps_never))
      (pss_nil))
  (pss_cons (ps_set (i := 1) sc_Line_due.nd rfl (Or.inl rfl) (pe_ix ix_list (pe_fld (pv 0) rfl) (pe_fld (pv 0) rfl) (fun _ _ => rfl)))
  (pss_cons (ps_if (pt_cmpR op_eq (pv 1) pe_str (nomark _))
      (pss_one (ps_never))
      (pss_nil))
  (pss_one (ps_ret (pv 1)))))
    , ?_⟩
  refine ⟨_, rfl, a, dx, _, rfl, h1, lnF_no (by decide +kernel) (by decide +kernel) (by decide +kernel) (by decide +kernel), a, ws, r, rfl, hL, _, rfl, iteF' (by rw [decide_eq_true hr']; rfl) ?_⟩
  refine ⟨_, rfl, a, C, dx, _, _, rfl, h1, T.c_Line.cl, T.n_words, lnF_words, _, rfl, a, C, dx, _, _, rfl, h1, T.c_Line.cl, T.n_read, lnF_read, wl, _, _, _, rfl, rfl, SqL.of h2, map_at hu, ?_⟩
  refine ⟨_, rfl, rfl, _, rfl, iteF' (decide_eq_false fun z => wd_ne (hL.ok u (List.mem_of_getElem? hu)) (V.str.inj z)) ?_⟩
  exact ⟨_, rfl, q⟩
def spStep (C : Addr) : Sp := fun vs H Q _ => ∃ (a : Addr) (ws : List Str) (r : Nat), vs = [.ref a] ∧ LnAt C H a ws r ∧ r < ws.length ∧ ∀ H', SameX a H H' → LnAt C H' a ws (r + 1) → Q .non H'
theorem d_step (T : TxtL K mg C) (A : MAt K C "step" "Line.step" s_Line_step ["self"]) : MDef P w K mg base CX0 1 C "step" ["self"] [] (spStep C) := by
  have B := T.B
  refine A.ok sc_Line_step (fun vs H Q E h => ?_) (fun f cdv A outer s H vs Q E hr h => ?_)
  · obtain ⟨a, ws, r, rfl, _⟩ := h
    rfl
  obtain ⟨a, ws, r, rfl, hL, hr', q⟩ := h
  obtain ⟨dx, n, wl, c, h1, h2⟩ := hL.ex
  have hu : ws[r]? = some ws[r] := List.getElem?_eq_getElem hr'
  have ea : wl ≠ a := ne_of h2 h1 (fun z => nomatch z)
  have hw := wd_len (hL.ok _ (List.getElem_mem hr'))
  refine ⟨_, pss_cons (ps_fldaug (pv 0) (pe_op op_add (pe_callB (call_len_str) (by rfl) B.len (by decide +kernel) (pa_cons (pe_ix ix_list (pe_fld (pv 0) rfl) (pe_fld (pv 0) rfl) (fun _ _ => rfl)) pa_nil)) pe_int) in_add)
  (pss_one (ps_fldaug (pv 0) pe_int in_add))
    , ?_⟩
  refine ⟨_, rfl, a, C, dx, _, _, rfl, h1, T.c_Line.cl, T.n_column, lnF_column, _, rfl, a, C, dx, _, _, rfl, h1, T.c_Line.cl, T.n_words, lnF_words, _, rfl, a, C, dx, _, _, rfl, h1, T.c_Line.cl, T.n_read, lnF_read, wl, _, _, _, rfl, rfl, SqL.of h2, map_at hu, ?_⟩
  refine ⟨_, rfl, Nat.le_trans hw (by decide), _, _, rfl, rfl, _, _, rfl, rfl, dx, _, h1, (by show 4 < 1000; decide), ?_⟩
  rw [lnF_put_column]
  refine ⟨_, rfl, a, C, dx, _, _, rfl, upd_same, T.c_Line.cl, T.n_read, lnF_read, _, _, rfl, rfl, dx, _, upd_same, (by show 4 < 1000; decide), ?_⟩
  rw [show ((r : Int) + 1) = ((r + 1 : Nat) : Int) by omega, lnF_put_read, upd_upd]
  exact q _ SameX.upd ⟨⟨dx, n, wl, _, upd_same, by rw [upd_ne ea]; exact h2⟩, hL.ok⟩
def spChoice (K : PySem.W.Frag) (C : Addr) : Sp := fun vs H Q _ => ∃ (a : Addr) (ws : List Str) (r : Nat) (t : Addr) (cs : List Str) (u : Str), vs = [.ref a, .ref t] ∧ LnAt C H a ws r ∧ SqT K H t (cs.map V.str) ∧ ws[r]? = some u ∧ u ∈ cs ∧
  ∀ H', SameX a H H' → LnAt C H' a ws (r + 1) → Q (.str u) H'
theorem inV_str {u : Str} {cs : List Str} : inV (.str u) (cs.map V.str) = decide (u ∈ cs) := by
  unfold inV
  rw [List.any_map]
  induction cs with
  | nil => rfl
  | cons c r ih =>
    rw [List.any_cons, ih]
    show (decide (c = u) || decide (u ∈ r)) = decide (u ∈ c :: r)
    rw [← Bool.decide_or]
    refine decide_eq_decide.mpr ⟨fun z => ?_, fun z => ?_⟩
    · rcases z with z | z
      · rw [z]; exact List.mem_cons_self
      · exact List.mem_cons_of_mem _ z
    · rcases List.mem_cons.mp z with z | z
      · exact .inl z.symm
      · exact .inr z
theorem flat_strs {cs : List Str} : (cs.map V.str).all flatV = true := by
  rw [List.all_map]
  exact List.all_eq_true.mpr fun _ _ => rfl
theorem d_read_choice (T : TxtL K mg C) (D_Line_due : MDef P w K mg base CX0 2 C "due" ["self"] [] (spDue C)) (D_Line_step : MDef P w K mg base CX0 1 C "step" ["self"] [] (spStep C))
    (A : MAt K C "read_choice" "Line.read_choice" s_Line_read_choice ["self", "choices"]) : MDef P w K mg base CX0 3 C "read_choice" ["self", "choices"] [] (spChoice K C) := by
  have B := T.B
  refine A.ok sc_Line_read_choice (fun vs H Q E h => ?_) (fun f cdv A outer s H vs Q E hr h => ?_)
  · obtain ⟨a, ws, r, t, cs, u, rfl, _⟩ := h
    rfl
  obtain ⟨a, ws, r, t, cs, u, rfl, hL, hT, hu, hc, q⟩ := h
  obtain ⟨dx, n, wl, c, h1, h2⟩ := hL.ex
  have hr' : r < ws.length := (List.getElem?_eq_some_iff.mp hu).1
  have no : ∀ {m : Str}, (m == ("number" : Str)) = false → (m == ("words" : Str)) = false → (m == ("read" : Str)) = false → (m == ("column" : Str)) = false → (lnF n wl r c).lookup m = none := fun z1 z2 z3 z4 => lnF_no z1 z2 z3 z4
  refine ⟨_, pss_cons (ps_set (i := 2) sc_Line_read_choice.nd rfl (Or.inl rfl) (pe_m0 D_Line_due T.c_Line.cl (hr.mono (by omega)) pass0 (pv 0)))
  (pss_cons (ps_if (pt_cmpR op_notIn_seq (pv 2) (pv 1) (by rfl))
      (pss_one (ps_never))
      (pss_nil))
  (pss_cons (ps_expr (pe_m0 D_Line_step T.c_Line.cl (hr.mono (by omega)) pass0 (pv 0)))
  (pss_one (ps_ret (pv 2)))))
    , ?_⟩
  refine ⟨_, rfl, a, dx, _, rfl, h1, no (by decide +kernel) (by decide +kernel) (by decide +kernel) (by decide +kernel), a, ws, r, u, rfl, hL, hu, ?_⟩
  refine ⟨_, rfl, _, rfl, t, _, rfl, .inr hT, rfl, flat_strs, _, rfl, iteF' (by rw [inV_str, decide_eq_true hc]; rfl) ?_⟩
  refine ⟨_, rfl, a, dx, _, rfl, h1, no (by decide +kernel) (by decide +kernel) (by decide +kernel) (by decide +kernel), a, ws, r, rfl, hL, hr', fun H' s' L' => ?_⟩
  exact ⟨_, rfl, q H' s' L'⟩
/-- a number's text -/
theorem dig_in {c : Nat} (h : 48 ≤ c ∧ c ≤ 57) : c ∈ ("0123456789" : Str).cps.toList := by
  have all : ∀ d, d < 58 → 48 ≤ d → d ∈ ("0123456789" : Str).cps.toList := by decide +kernel
  exact all c (by omega) h.1
def spIsNum : Sp := fun vs H Q _ => ∃ n : Int, vs = [.str (num n)] ∧ 0 ≤ n ∧ n < 10000000 ∧ ∀ H', Same H H' → Q (.bl true) H'
theorem str1_inj {a b : Nat} (h : (⟨#[a]⟩ : Str) = ⟨#[b]⟩) : a = b := by
  injection h with h
  injection h with h
  injection h
theorem d_is_number (T : TxtL K mg C) (A : At K mg "is_number" s_is_number ["word"]) : DefOk P w K mg base CX0 1 "is_number" ["word"] spIsNum := by
  have B := T.B
  refine A.ok sc_is_number (fun vs H Q E h => ?_) (fun f cdv A outer s H vs Q E hr h => ?_)
  · obtain ⟨n, rfl, _⟩ := h
    rfl
  obtain ⟨n, rfl, h0, h1, q⟩ := h
  refine ⟨_, pss_cons (ps_if (PW.pt (pw_or (pt_cmpR op_gt (pe_callB (call_len_str) (by rfl) B.len (by decide +kernel) (pa_cons (pv 0) pa_nil)) (pe_gi T.g_MOST_DIGITS) (nomark _)) (pw_or1 (PW.pt (pw_and (pt_cmpR op_eq (pe_ix ix_str (pv 0) pe_int (fun _ _ => rfl)) pe_str (nomark _)) (pw_and1 (pt_cmpR op_ne (pv 0) pe_str (nomark _))))))))
      (pss_one (ps_ret pe_bl))
      (pss_nil))
  (pss_one (ps_ret (pe_callB (cr_all rfl) (by rfl) B.all (by decide +kernel) (pa_cons (pe_lc (own := [("letter", 1)])  rfl sc_is_number.nd (pi_str (pv 0)) (blkOk_by (own := [("letter", 1)]) (N := ["word", "letter"]) (sc := defScope s_is_number) (by decide +kernel)) (fun _ _ _ _ _ => pg_name (i := 1) sc_is_number.nd rfl (Or.inl rfl)) (fun _ _ _ _ _ => pts_nil) (fun _ _ _ _ _ => (pe_cmpR op_in_sign (pv 1) (pe_gs T.g_DIGITS) (by rfl)))) pa_nil))))
    , ?_⟩
  have htl := num_nat h0
  have hlen : (num n).length ≤ 7 := by
    rw [TL.len_tl, show TL.tl (num n) = tl (num n) from rfl, htl]
    exact numL_len7 (by omega)
  cases hq : TL.numL n.toNat with
  | nil => exact absurd hq (TL.numL_ne _)
  | cons d ds =>
  have hd : atI (num n).cps.toList 0 = some d := by
    show atI (tl (num n)) 0 = some d
    rw [htl, hq]
    exact atI_nat (j := 0) rfl
  have all : ∀ c ∈ tl (num n), 48 ≤ c ∧ c ≤ 57 := fun c hc => by
    rw [htl] at hc
    exact TL.numL_digits _ c hc
  refine ⟨_, rfl, _, rfl, Nat.le_trans hlen (by decide), _, _, rfl, rfl, _, rfl, iteF' (decide_eq_false (by omega)) ?_⟩
  refine ⟨_, rfl, _, _, d, rfl, rfl, Nat.le_trans hlen (by decide), hd, rfl, _, rfl, ite2 (fun c => ?_) (fun c => ?_)⟩
  · -- a leading 0: it is 0
    have e0 : (⟨#[d]⟩ : Str) = Str.ofString "0" := V.str.inj (of_decide_eq_true c)
    have e1 : (Str.ofString "0" : Str) = ⟨#[48]⟩ := by decide +kernel
    have ed : d = 48 := str1_inj (e0.trans e1)
    have en : n.toNat = 0 := numL_head ds (by rw [hq, ed])
    have en2 : n = 0 := by omega
    subst en2
    refine ⟨_, rfl, rfl, _, rfl, iteF' (by rw [decide_eq_true (show (V.str (num 0) = V.str (Str.ofString "0")) from by decide +kernel)]; rfl) ?_⟩
    refine ⟨_, rfl, _, rfl, fun D hD => lc_it (walk_str) (fun i H' => Same H H' ∧ H' D = some (.lst ((List.replicate i true).map V.bl))) ⟨same_new hD _, upd_same⟩ (fun _ _ _ _ => True.intro) (fun i x H1 H2 hi hI hy => ?_) (fun H1 hI => ?_)⟩
    · obtain ⟨rfl, ch, hch, rfl⟩ := hy
      obtain ⟨hs, hDD⟩ := hI
      have hcm : ch ∈ tl (num 0) := by
        have : (num 0).cps.toList[i]? = some ch := by rw [Array.getElem?_toList]; exact hch
        exact List.mem_of_getElem? this
      refine ⟨rfl, _, rfl, ch, _, rfl, rfl, _, hDD, ?_, same_at hD hs _, ?_⟩
      · rw [List.length_map, List.length_replicate]
        have : (num 0).cps.size ≤ 7 := hlen
        exact small1000 (by omega)
      · rw [upd_same, List.replicate_succ', List.map_append, decide_eq_true (dig_in (all ch hcm))]
        rfl
    · obtain ⟨hs, hDD⟩ := hI
      refine ⟨D, _, rfl, SqL.of hDD, ?_⟩
      rw [show (List.replicate (num 0).cps.size true).all id = true from List.all_eq_true.mpr fun b hb => by rw [List.eq_of_mem_replicate hb]; rfl]
      exact q H1 hs
  · refine iteF ?_
    refine ⟨_, rfl, _, rfl, fun D hD => lc_it (walk_str) (fun i H' => Same H H' ∧ H' D = some (.lst ((List.replicate i true).map V.bl))) ⟨same_new hD _, upd_same⟩ (fun _ _ _ _ => True.intro) (fun i x H1 H2 hi hI hy => ?_) (fun H1 hI => ?_)⟩
    · obtain ⟨rfl, ch, hch, rfl⟩ := hy
      obtain ⟨hs, hDD⟩ := hI
      have hcm : ch ∈ tl (num n) := by
        have : (num n).cps.toList[i]? = some ch := by rw [Array.getElem?_toList]; exact hch
        exact List.mem_of_getElem? this
      refine ⟨rfl, _, rfl, ch, _, rfl, rfl, _, hDD, ?_, same_at hD hs _, ?_⟩
      · rw [List.length_map, List.length_replicate]
        have : (num n).cps.size ≤ 7 := hlen
        exact small1000 (by omega)
      · rw [upd_same, List.replicate_succ', List.map_append, decide_eq_true (dig_in (all ch hcm))]
        rfl
    · obtain ⟨hs, hDD⟩ := hI
      refine ⟨D, _, rfl, SqL.of hDD, ?_⟩
      rw [show (List.replicate (num n).cps.size true).all id = true from List.all_eq_true.mpr fun b hb => by rw [List.eq_of_mem_replicate hb]; rfl]
      exact q H1 hs
def spNumber (C : Addr) : Sp := fun vs H Q _ => ∃ (a : Addr) (ws : List Str) (r : Nat) (lo hi n : Int), vs = [.ref a, .int lo, .int hi] ∧ LnAt C H a ws r ∧ ws[r]? = some (num n) ∧ 0 ≤ n ∧ n < 10000000 ∧ lo ≤ n ∧ n ≤ hi ∧
  ∀ H', SameX a H H' → LnAt C H' a ws (r + 1) → Q (.int n) H'
theorem int_of_num {n : Int} (h0 : 0 ≤ n) (h1 : n < 10000000) : PySem.intText? (num n) = some n ∧ (num n).length ≤ 640 := by
  have e : n = ((n.toNat : Nat) : Int) := by omega
  have hl := numL_len7 (n := n.toNat) (by omega)
  refine ⟨?_, ?_⟩
  · have h := TL.int_num (n := n.toNat) (Nat.le_trans hl (by decide))
    rw [← e] at h
    exact h
  · rw [TL.len_tl, show TL.tl (num n) = tl (num n) from rfl, num_nat h0]
    omega
theorem d_read_number (T : TxtL K mg C) (D_is_number : DefOk P w K mg base CX0 1 "is_number" ["word"] spIsNum) (D_Line_due : MDef P w K mg base CX0 2 C "due" ["self"] [] (spDue C)) (D_Line_step : MDef P w K mg base CX0 1 C "step" ["self"] [] (spStep C))
    (A : MAt K C "read_number" "Line.read_number" s_Line_read_number ["self", "least", "most"]) : MDef P w K mg base CX0 3 C "read_number" ["self", "least", "most"] [] (spNumber C) := by
  have B := T.B
  refine A.ok sc_Line_read_number (fun vs H Q E h => ?_) (fun f cdv A outer s H vs Q E hr h => ?_)
  · obtain ⟨a, ws, r, lo, hi, n, rfl, _⟩ := h
    rfl
  obtain ⟨a, ws, r, lo, hi, n, rfl, hL, hu, h0, hm, hlo, hhi, q⟩ := h
  obtain ⟨dx, nn, wl, c, h1, h2⟩ := hL.ex
  have hr' : r < ws.length := (List.getElem?_eq_some_iff.mp hu).1
  refine ⟨_, pss_cons (ps_set (i := 3) sc_Line_read_number.nd rfl (Or.inl rfl) (pe_m0 D_Line_due T.c_Line.cl (hr.mono (by omega)) pass0 (pv 0)))
  (pss_cons (ps_if (pt_not (pt_val (pe_f D_is_number (hr.mono (by omega)) pass0 (pa_cons (pv 3) pa_nil))))
      (pss_one (ps_never))
      (pss_nil))
  (pss_cons (ps_set (i := 4) sc_Line_read_number.nd rfl (Or.inl rfl) (pe_callTy (call_int_str) (by rfl) B.int (by decide +kernel) (pa_cons (pv 3) pa_nil)))
  (pss_cons (ps_if (PW.pt (pw_or (pt_cmpR op_lt (pv 4) (pv 1) (nomark _)) (pw_or1 (pt_cmpR op_gt (pv 4) (pv 2) (nomark _)))))
      (pss_one (ps_never))
      (pss_nil))
  (pss_cons (ps_expr (pe_m0 D_Line_step T.c_Line.cl (hr.mono (by omega)) pass0 (pv 0)))
  (pss_one (ps_ret (pv 4)))))))
    , ?_⟩
  refine ⟨_, rfl, a, dx, _, rfl, h1, lnF_no (by decide +kernel) (by decide +kernel) (by decide +kernel) (by decide +kernel), a, ws, r, _, rfl, hL, hu, ?_⟩
  refine ⟨_, rfl, n, rfl, h0, hm, fun H1 s1 => ⟨_, rfl, iteF ?_⟩⟩
  obtain ⟨i1, i2⟩ := int_of_num h0 hm
  refine ⟨_, rfl, _, n, rfl, i1, i2, ?_⟩
  refine ⟨_, rfl, _, rfl, _, _, rfl, rfl, _, rfl, iteF' (decide_eq_false (by omega)) ?_⟩
  refine ⟨_, rfl, _, rfl, _, _, rfl, rfl, _, rfl, iteF' (decide_eq_false (by omega)) ?_⟩
  refine ⟨_, rfl, a, dx, _, rfl, s1 _ _ h1, lnF_no (by decide +kernel) (by decide +kernel) (by decide +kernel) (by decide +kernel), a, ws, r, rfl, hL.same s1, hr', fun H' s' L' => ?_⟩
  exact ⟨_, rfl, q H' ((SameX.of s1).trans s') L'⟩
def spField (C : Addr) : Sp := fun vs H Q _ => ∃ (a : Addr) (ws : List Str) (r : Nat) (u : Str) (lo hi n : Int), vs = [.ref a, .str u, .int lo, .int hi] ∧ LnAt C H a ws r ∧ ws[r]? = some u ∧ ws[r + 1]? = some (num n) ∧ 0 ≤ n ∧ n < 10000000 ∧ lo ≤ n ∧ n ≤ hi ∧
  ∀ H', SameX a H H' → LnAt C H' a ws (r + 2) → Q (.int n) H'
theorem d_read_field (T : TxtL K mg C) (D_Line_read_choice : MDef P w K mg base CX0 3 C "read_choice" ["self", "choices"] [] (spChoice K C)) (D_Line_read_number : MDef P w K mg base CX0 3 C "read_number" ["self", "least", "most"] [] (spNumber C))
    (A : MAt K C "read_field" "Line.read_field" s_Line_read_field ["self", "word", "least", "most"]) : MDef P w K mg base CX0 4 C "read_field" ["self", "word", "least", "most"] [] (spField C) := by
  have B := T.B
  refine A.ok sc_Line_read_field (fun vs H Q E h => ?_) (fun f cdv A outer s H vs Q E hr h => ?_)
  · obtain ⟨a, ws, r, u, lo, hi, n, rfl, _⟩ := h
    rfl
  obtain ⟨a, ws, r, u, lo, hi, n, rfl, hL, hu, hn, h0, hm, hlo, hhi, q⟩ := h
  obtain ⟨dx, nn, wl, c, h1, h2⟩ := hL.ex
  refine ⟨_, pss_cons (ps_expr (pe_m D_Line_read_choice T.c_Line.cl (hr.mono (by omega)) pass0 (pv 0) (pa_cons (pe_tup (pa_cons (pv 1) pa_nil)) pa_nil)))
  (pss_one (ps_ret (pe_m D_Line_read_number T.c_Line.cl (hr.mono (by omega)) pass0 (pv 0) (pa_cons (pv 2) (pa_cons (pv 3) pa_nil)))))
    , ?_⟩
  refine ⟨_, rfl, a, dx, _, rfl, h1, lnF_no (by decide +kernel) (by decide +kernel) (by decide +kernel) (by decide +kernel), _, rfl, (by show 1 ≤ sizeLine; decide), fun t ht => ?_⟩
  have s1 : Same H (upd H t (.tup [.str u])) := same_new ht _
  refine ⟨a, ws, r, t, [u], u, rfl, hL.same s1, SqT.of upd_same, hu, List.mem_cons_self, fun H2 s2 L2 => ?_⟩
  obtain ⟨dx2, n2, wl2, c2, g1, g2⟩ := L2.ex
  refine ⟨_, rfl, a, dx2, _, rfl, g1, lnF_no (by decide +kernel) (by decide +kernel) (by decide +kernel) (by decide +kernel), _, rfl, _, rfl, a, ws, r + 1, lo, hi, n, rfl, L2, hn, h0, hm, hlo, hhi, fun H3 s3 L3 => ?_⟩
  exact q H3 (((SameX.of s1).trans s2).trans s3) L3
/-- a name's text -/
theorem let_in {c : Nat} (h : isL c = true) : c ∈ ("abcdefghijklmnopqrstuvwxyzABCDEFGHIJKLMNOPQRSTUVWXYZ" : Str).cps.toList := by
  have all : ∀ d, d < 123 → isL d = true → d ∈ ("abcdefghijklmnopqrstuvwxyzABCDEFGHIJKLMNOPQRSTUVWXYZ" : Str).cps.toList := by decide +kernel
  exact all c (by have := isL_lt h; omega) h
def spIsName : Sp := fun vs H Q _ => ∃ u : Str, vs = [.str u] ∧ NameOk u ∧ ∀ H', Same H H' → Q (.bl true) H'
theorem d_is_name (T : TxtL K mg C) (A : At K mg "is_name" s_is_name ["word"]) : DefOk P w K mg base CX0 1 "is_name" ["word"] spIsName := by
  have B := T.B
  refine A.ok sc_is_name (fun vs H Q E h => ?_) (fun f cdv A outer s H vs Q E hr h => ?_)
  · obtain ⟨u, rfl, _⟩ := h
    rfl
  obtain ⟨u, rfl, hu, q⟩ := h
  refine ⟨_, pss_cons (ps_if (PW.pt (pw_or (pt_cmpR op_gt (pe_callB (call_len_str) (by rfl) B.len (by decide +kernel) (pa_cons (pv 0) pa_nil)) (pe_gi T.g_MOST_NAME) (nomark _)) (pw_or1 (pt_cmpR op_notIn_sign (pe_ix ix_str (pv 0) pe_int (fun _ _ => rfl)) (pe_gs T.g_LETTERS) (by rfl)))))
      (pss_one (ps_ret pe_bl))
      (pss_nil))
  (pss_one (ps_ret (pe_callB (cr_all rfl) (by rfl) B.all (by decide +kernel) (pa_cons (pe_lc (own := [("letter", 1)])  rfl sc_is_name.nd (pi_str (pv 0)) (blkOk_by (own := [("letter", 1)]) (N := ["word", "letter"]) (sc := defScope s_is_name) (by decide +kernel)) (fun _ _ _ _ _ => pg_name (i := 1) sc_is_name.nd rfl (Or.inl rfl)) (fun _ _ _ _ _ => pts_nil) (fun _ _ _ _ _ => (pe_or (pe_cmpR op_in_sign (pv 1) (pe_gs T.g_LETTERS) (by rfl)) (pe_one (pe_cmpR op_in_sign (pv 1) (pe_gs T.g_DIGITS) (by rfl)))))) pa_nil))))
    , ?_⟩
  have signs := hu.signs
  obtain ⟨d, ds, e, hd, _, hl⟩ := hu
  have hlen : u.length ≤ 15 := by
    rw [TL.len_tl, show TL.tl u = tl u from rfl, e, List.length_cons]
    omega
  have hat : atI u.cps.toList 0 = some d := by
    show atI (tl u) 0 = some d
    rw [e]
    exact atI_nat (j := 0) rfl
  refine ⟨_, rfl, _, rfl, Nat.le_trans hlen (by decide), _, _, rfl, rfl, _, rfl, iteF' (decide_eq_false (by omega)) ?_⟩
  refine ⟨_, rfl, _, _, d, rfl, rfl, Nat.le_trans hlen (by decide), hat, d, _, rfl, rfl, _, rfl, iteF' (by rw [decide_eq_true (let_in hd)]; rfl) ?_⟩
  refine ⟨_, rfl, _, rfl, fun D hD => lc_it (walk_str) (fun i H' => Same H H' ∧ H' D = some (.lst ((List.replicate i true).map V.bl))) ⟨same_new hD _, upd_same⟩ (fun _ _ _ _ => True.intro) (fun i x H1 H2 hi hI hy => ?_) (fun H1 hI => ?_)⟩
  · obtain ⟨rfl, ch, hch, rfl⟩ := hy
    obtain ⟨hs, hDD⟩ := hI
    have hcm : ch ∈ tl u := by
      have : u.cps.toList[i]? = some ch := by rw [Array.getElem?_toList]; exact hch
      exact List.mem_of_getElem? this
    have room : ((List.replicate i true).map V.bl).length < sizeLine := by
      rw [List.length_map, List.length_replicate]
      have : u.cps.size ≤ 15 := hlen
      exact small1000 (by omega)
    refine ⟨rfl, _, rfl, ch, _, rfl, rfl, _, rfl, ite2 (fun c => ?_) (fun c => ?_)⟩
    · refine ⟨_, hDD, room, same_at hD hs _, ?_⟩
      rw [upd_same, List.replicate_succ', List.map_append]
      rfl
    · have c' : ¬ ch ∈ ("abcdefghijklmnopqrstuvwxyzABCDEFGHIJKLMNOPQRSTUVWXYZ" : Str).cps.toList := fun z => c (decide_eq_true z)
      have hdg : isD ch = true := by
        rcases Bool.or_eq_true _ _ ▸ (signs ch hcm) with z | z
        · exact absurd (let_in z) c'
        · exact z
      refine ⟨_, rfl, ch, _, rfl, rfl, _, hDD, room, same_at hD hs _, ?_⟩
      rw [upd_same, List.replicate_succ', List.map_append, decide_eq_true (dig_in (isD_lt hdg))]
      rfl
  · obtain ⟨hs, hDD⟩ := hI
    refine ⟨D, _, rfl, SqL.of hDD, ?_⟩
    rw [show (List.replicate u.cps.size true).all id = true from List.all_eq_true.mpr fun b hb => by rw [List.eq_of_mem_replicate hb]; rfl]
    exact q H1 hs
def spDueName (C : Addr) : Sp := fun vs H Q _ => ∃ (a : Addr) (ws : List Str) (r : Nat) (u : Str), vs = [.ref a] ∧ LnAt C H a ws r ∧ ws[r]? = some u ∧ NameOk u ∧ ∀ H', Same H H' → Q (.str u) H'
theorem d_due_name (T : TxtL K mg C) (D_is_name : DefOk P w K mg base CX0 1 "is_name" ["word"] spIsName) (D_Line_due : MDef P w K mg base CX0 2 C "due" ["self"] [] (spDue C))
    (A : MAt K C "due_name" "Line.due_name" s_Line_due_name ["self"]) : MDef P w K mg base CX0 3 C "due_name" ["self"] [] (spDueName C) := by
  have B := T.B
  refine A.ok sc_Line_due_name (fun vs H Q E h => ?_) (fun f cdv A outer s H vs Q E hr h => ?_)
  · obtain ⟨a, ws, r, u, rfl, _⟩ := h
    rfl
  obtain ⟨a, ws, r, u, rfl, hL, hu, hn, q⟩ := h
  obtain ⟨dx, nn, wl, c, h1, h2⟩ := hL.ex
  refine ⟨_, pss_cons (ps_set (i := 1) sc_Line_due_name.nd rfl (Or.inl rfl) (pe_m0 D_Line_due T.c_Line.cl (hr.mono (by omega)) pass0 (pv 0)))
  (pss_cons (ps_if (pt_not (pt_val (pe_f D_is_name (hr.mono (by omega)) pass0 (pa_cons (pv 1) pa_nil))))
      (pss_one (ps_never))
      (pss_nil))
  (pss_one (ps_ret (pv 1))))
    , ?_⟩
  refine ⟨_, rfl, a, dx, _, rfl, h1, lnF_no (by decide +kernel) (by decide +kernel) (by decide +kernel) (by decide +kernel), a, ws, r, _, rfl, hL, hu, ?_⟩
  exact ⟨_, rfl, u, rfl, hn, fun H1 s1 => ⟨_, rfl, iteF ⟨_, rfl, q H1 s1⟩⟩⟩
def spNewName (K : PySem.W.Frag) (C : Addr) : Sp := fun vs H Q _ => ∃ (a : Addr) (ws : List Str) (r : Nat) (p : Addr) (ns : List Str) (u : Str), vs = [.ref a, .ref p] ∧ LnAt C H a ws r ∧ SqL K H p (ns.map V.str) ∧ ws[r]? = some u ∧ NameOk u ∧ u ∉ ns ∧
  ∀ H', SameX a H H' → LnAt C H' a ws (r + 1) → Q (.str u) H'
theorem d_read_new_name (T : TxtL K mg C) (D_Line_due_name : MDef P w K mg base CX0 3 C "due_name" ["self"] [] (spDueName C)) (D_Line_step : MDef P w K mg base CX0 1 C "step" ["self"] [] (spStep C))
    (A : MAt K C "read_new_name" "Line.read_new_name" s_Line_read_new_name ["self", "used"]) : MDef P w K mg base CX0 4 C "read_new_name" ["self", "used"] [] (spNewName K C) := by
  have B := T.B
  refine A.ok sc_Line_read_new_name (fun vs H Q E h => ?_) (fun f cdv A outer s H vs Q E hr h => ?_)
  · obtain ⟨a, ws, r, p, ns, u, rfl, _⟩ := h
    rfl
  obtain ⟨a, ws, r, p, ns, u, rfl, hL, hP, hu, hn, hno, q⟩ := h
  obtain ⟨dx, nn, wl, c, h1, h2⟩ := hL.ex
  have hr' : r < ws.length := (List.getElem?_eq_some_iff.mp hu).1
  refine ⟨_, pss_cons (ps_set (i := 2) sc_Line_read_new_name.nd rfl (Or.inl rfl) (pe_m0 D_Line_due_name T.c_Line.cl (hr.mono (by omega)) pass0 (pv 0)))
  (pss_cons (ps_if (pt_cmpR op_in_seq (pv 2) (pv 1) (by rfl))
      (pss_one (ps_never))
      (pss_nil))
  (pss_cons (ps_expr (pe_m0 D_Line_step T.c_Line.cl (hr.mono (by omega)) pass0 (pv 0)))
  (pss_one (ps_ret (pv 2)))))
    , ?_⟩
  refine ⟨_, rfl, a, dx, _, rfl, h1, lnF_no (by decide +kernel) (by decide +kernel) (by decide +kernel) (by decide +kernel), a, ws, r, _, rfl, hL, hu, hn, fun H1 s1 => ?_⟩
  refine ⟨_, rfl, _, rfl, p, _, rfl, .inl (s1.seq hP), rfl, flat_strs, _, rfl, iteF' (by rw [inV_str, decide_eq_false hno]; rfl) ?_⟩
  refine ⟨_, rfl, a, dx, _, rfl, s1 _ _ h1, lnF_no (by decide +kernel) (by decide +kernel) (by decide +kernel) (by decide +kernel), a, ws, r, rfl, hL.same s1, hr', fun H' s' L' => ?_⟩
  exact ⟨_, rfl, q H' ((SameX.of s1).trans s') L'⟩
/-- the name's first place, and no least one is asked -/
def spKnownName (K : PySem.W.Frag) (C : Addr) : Sp := fun vs H Q _ => ∃ (a : Addr) (ws : List Str) (r : Nat) (p : Addr) (ns : List Str) (u : Str) (j : Nat) (least : Int), vs = [.ref a, .ref p, .int least] ∧ LnAt C H a ws r ∧ SqL K H p (ns.map V.str) ∧ ws[r]? = some u ∧ NameOk u ∧
  ns[j]? = some u ∧ ns.Nodup ∧ least ≤ (j : Int) ∧ ∀ H', SameX a H H' → LnAt C H' a ws (r + 1) → Q (.int (j : Int)) H'
theorem nodup_first {ns : List Str} {u : Str} {j : Nat} (hd : ns.Nodup) (h : ns[j]? = some u) : ∀ (m : Nat) (z : V), m < j → (ns.map V.str)[m]? = some z → eqV z (.str u) = false := fun m z hm hz => by
  rw [List.getElem?_map] at hz
  cases e : ns[m]? with
  | none => rw [e] at hz; cases hz
  | some y =>
    rw [e] at hz
    have ez : V.str y = z := Option.some.inj hz
    rw [← ez]
    show decide (y = u) = false
    refine decide_eq_false fun q => ?_
    obtain ⟨h1, e1⟩ := List.getElem?_eq_some_iff.mp e
    obtain ⟨h2, e2⟩ := List.getElem?_eq_some_iff.mp h
    have := (List.getElem_inj hd).mp (e1.trans (q.trans e2.symm))
    omega
theorem read_known_body {f : Addr} {cdv : Value} {A : Around} {outer : List Env} {s : Shared} {H : Hp} {vs : List V} {Q : VK} {E : XK} (T : TxtL K mg C) (D_Line_due_name : MDef P w K mg base CX0 3 C "due_name" ["self"] [] (spDueName C)) (D_Line_step : MDef P w K mg base CX0 1 C "step" ["self"] [] (spStep C))
    (hr : Room 3 (A.deeper (envOfC "Line.read_known_name" (defScope s_Line_read_known_name) s.heap.objs.size f cdv))) (h : spKnownName K C vs H Q E) :
    ∃ t, PSs (cxOf CX0 P w K mg base ["self", "names", "least", "word", "number"] "Line.read_known_name" (defScope s_Line_read_known_name) f cdv A outer s H E).nox (defBody s_Line_read_known_name) t ∧ t { nx := fun _ H' => Q .non H', rt := Q } (start ["self", "names", "least", "word", "number"] vs) H := by
  have B := T.B
  obtain ⟨a, ws, r, p, ns, u, j, least, rfl, hL, hP, hu, hn, hj, hd, hle, q⟩ := h
  obtain ⟨dx, nn, wl, c, h1, h2⟩ := hL.ex
  have hr' : r < ws.length := (List.getElem?_eq_some_iff.mp hu).1
  have hm : u ∈ ns := List.mem_of_getElem? hj
  refine ⟨_, pss_cons (ps_set (i := 3) sc_Line_read_known_name.nd rfl (Or.inl rfl) (pe_m0 D_Line_due_name T.c_Line.cl (hr.mono (by omega)) pass0 (pv 0)))
  (pss_cons (ps_if (pt_cmpR op_notIn_seq (pv 3) (pv 1) (by rfl))
      (pss_one (ps_never))
      (pss_nil))
  (pss_cons (ps_set (i := 4) sc_Line_read_known_name.nd rfl (Or.inl rfl) (pe_bm PySem.F.plainAttrs_list PySem.F.slot_list_index PySem.F.type_list_index mt_index (pv 1) (pa_cons (pv 3) pa_nil)))
  (pss_cons (ps_if (pt_cmpR op_lt (pv 4) (pv 2) (nomark _))
      (pss_one (ps_never))
      (pss_nil))
  (pss_cons (ps_expr (pe_m0 D_Line_step T.c_Line.cl (hr.mono (by omega)) pass0 (pv 0)))
  (pss_one (ps_ret (pv 4)))))))
    , ?_⟩
  refine ⟨_, rfl, a, dx, _, rfl, h1, lnF_no (by decide +kernel) (by decide +kernel) (by decide +kernel) (by decide +kernel), a, ws, r, _, rfl, hL, hu, hn, fun H1 s1 => ?_⟩
  refine ⟨_, rfl, _, rfl, p, _, rfl, .inl (s1.seq hP), rfl, flat_strs, _, rfl, iteF' (by rw [inV_str, decide_eq_true hm]; rfl) ?_⟩
  refine ⟨_, rfl, .inl ⟨rfl, _, s1.seq hP⟩, _, rfl, p, _, _, j, .str u, rfl, rfl, s1.seq hP, rfl, flat_strs, by rw [List.getElem?_map, hj]; rfl, decide_eq_true rfl, nodup_first hd hj, ?_⟩
  refine ⟨_, rfl, _, rfl, _, _, rfl, rfl, _, rfl, iteF' (decide_eq_false (by omega)) ?_⟩
  refine ⟨_, rfl, a, dx, _, rfl, s1 _ _ h1, lnF_no (by decide +kernel) (by decide +kernel) (by decide +kernel) (by decide +kernel), a, ws, r, rfl, hL.same s1, hr', fun H' s' L' => ?_⟩
  exact ⟨_, rfl, q H' ((SameX.of s1).trans s') L'⟩
theorem d_read_known_name (T : TxtL K mg C) (D_Line_due_name : MDef P w K mg base CX0 3 C "due_name" ["self"] [] (spDueName C)) (D_Line_step : MDef P w K mg base CX0 1 C "step" ["self"] [] (spStep C))
    (A : MAtD K C "read_known_name" "Line.read_known_name" s_Line_read_known_name ["self", "names", "least"] [.int 0]) : MDef P w K mg base CX0 4 C "read_known_name" ["self", "names", "least"] [.int 0] (spKnownName K C) := by
  refine A.ok sc_Line_read_known_name (fun vs H Q E h => ?_) (fun f cdv A outer s H vs Q E hr h => read_known_body T D_Line_due_name D_Line_step hr h)
  obtain ⟨a, ws, r, p, ns, u, j, least, rfl, _⟩ := h
  rfl
def spFinish (C : Addr) : Sp := fun vs H Q _ => ∃ (a : Addr) (ws : List Str), vs = [.ref a] ∧ LnAt C H a ws ws.length ∧ Q .non H
theorem d_finish (T : TxtL K mg C) (D_Line_has_more : MDef P w K mg base CX0 1 C "has_more" ["self"] [] (spHasMore C)) (A : MAt K C "finish" "Line.finish" s_Line_finish ["self"]) : MDef P w K mg base CX0 3 C "finish" ["self"] [] (spFinish C) := by
  have B := T.B
  refine A.ok sc_Line_finish (fun vs H Q E h => ?_) (fun f cdv A outer s H vs Q E hr h => ?_)
  · obtain ⟨a, ws, rfl, _⟩ := h
    rfl
  obtain ⟨a, ws, rfl, hL, q⟩ := h
  obtain ⟨dx, nn, wl, c, h1, h2⟩ := hL.ex
  refine ⟨_, pss_one (ps_if (pt_val (pe_m0 D_Line_has_more T.c_Line.cl (hr.mono (by omega)) pass0 (pv 0)))
      (pss_cons (ps_never)
      (pss_one (ps_never)))
      (pss_nil))
    , ?_⟩
  exact ⟨_, rfl, a, dx, _, rfl, h1, lnF_no (by decide +kernel) (by decide +kernel) (by decide +kernel) (by decide +kernel), a, ws, _, rfl, hL, _, rfl, iteF' (decide_eq_false (Nat.lt_irrefl _)) q⟩
def spLines (C : Addr) : Sp := fun vs H Q _ => ∃ (lns : List (List Str)), vs = [.str (glue (lns.map row))] ∧ (∀ l ∈ lns, l ≠ [] ∧ (∀ x ∈ l, WdOk x) ∧ l.length ≤ 1015) ∧ lns.length ≤ 100 ∧ (glue (lns.map row)).length ≤ 1000000 ∧
  ∀ (p : Addr) (as : List Addr) (H' : Hp), Same H H' → H p = none → (∀ a ∈ as, H a = none) → as.Nodup → H' p = some (.lst (as.map V.ref)) → Paired (fun a l => LnAt C H' a l 0) as lns → Q (.ref p) H'
theorem d_lines_of (T : TxtL K mg C) (DI_Line : MDef P w K mg base CX0 1 C "__init__" ["self", "number", "row"] [] (spLnInit C)) (A : At K mg "lines_of" s_lines_of ["text"]) : DefOk P w K mg base CX0 3 "lines_of" ["text"] (spLines C) := by
  have B := T.B
  refine A.ok sc_lines_of (fun vs H Q E h => ?_) (fun f cdv A outer s H vs Q E hr h => ?_)
  · obtain ⟨lns, rfl, _⟩ := h
    rfl
  obtain ⟨lns, rfl, hl, hn, hz, q⟩ := h
  refine ⟨_, pss_cons (ps_set (i := 1) sc_lines_of.nd rfl (Or.inl rfl) (pe_split (pv 0) pe_str))
  (pss_cons (ps_set (i := 2) sc_lines_of.nd rfl (Or.inl rfl) (pe_bm0 PySem.F.plainAttrs_list PySem.F.slot_list_pop PySem.F.type_list_pop mt_pop (pv 1)))
  (pss_cons (ps_if (pt_cmpR op_ne (pv 2) pe_str (nomark _))
      (pss_one (ps_never))
      (pss_nil))
  (pss_one (ps_ret (pe_lc (own := [("number", 3), ("row", 4)])  rfl sc_lines_of.nd (pi_enumS (by rfl) B.enumerate (pa_cons (pv 1) pa_nil) (pk_cons pe_int pk_nil)) (blkOk_by (own := [("number", 3), ("row", 4)]) (N := ["text", "rows", "last", "number", "row"]) (sc := defScope s_lines_of) (by decide +kernel)) (fun _ _ _ _ _ => pg_tupK (K := K) (n := 2) rfl (by rfl) (pgs_cons (pg_name (i := 3) sc_lines_of.nd rfl (Or.inl rfl)) (pgs_cons (pg_name (i := 4) sc_lines_of.nd rfl (Or.inl rfl)) (pgs_nil)))) (fun _ _ _ _ _ => pts_nil) (fun _ _ _ _ _ => (pe_mk DI_Line T.c_Line (hr.mono (by omega)) pass0 (pa_cons (pv 3) (pa_cons (pv 4) pa_nil)))))))))
    , ?_⟩
  have hsplit : Txt.split (glue (lns.map row)) nl = lns.map row ++ [Str.empty] := glue_split fun r hr => by
    obtain ⟨l, hl', rfl⟩ := List.mem_map.mp hr
    exact row_free (hl l hl').2.1
  refine ⟨_, rfl, ⟨_, rfl⟩, _, nl, rfl, rfl, by decide +kernel, Nat.le_trans (Nat.add_le_add_right hz 2) (by decide), fun rl hrl => ?_⟩
  have e0 : upd H rl (.lst ((Txt.split (glue (lns.map row)) nl).map V.str)) = upd H rl (.lst ((lns.map row).map V.str ++ [.str Str.empty])) := by
    rw [hsplit, List.map_append]
    rfl
  rw [e0]
  refine ⟨_, rfl, .inl ⟨rfl, _, SqL.of upd_same⟩, rl, _, .str Str.empty, rfl, rfl, upd_same, by rw [List.length_append, List.length_singleton, Nat.add_sub_cancel, List.getElem?_append_right (Nat.le_refl _), Nat.sub_self]; rfl, ?_⟩
  rw [upd_upd, List.dropLast_concat]
  refine ⟨_, rfl, rfl, _, rfl, iteF' (by decide +kernel) ?_⟩
  refine ⟨_, rfl, _, _, 1, rfl, rfl, SqL.of upd_same, by decide, by decide, fun D hD => ?_⟩
  have hrlD : rl ≠ D := fun z => by
    rw [← z, upd_same] at hD
    cases hD
  have hD0 : H D = none := by
    rw [upd_ne hrlD.symm] at hD
    exact hD
  have sS : Same H (upd H rl (.lst ((lns.map row).map V.str))) := same_new hrl _
  refine lc_it (walk_enumS (xs := (lns.map row).map V.str)) (fun i H' => ∃ as : List Addr, as.length = i ∧ H' D = some (.lst (as.map V.ref)) ∧ Same (upd H rl (.lst ((lns.map row).map V.str))) H' ∧ (∀ a ∈ as, H a = none) ∧ as.Nodup ∧ Paired (fun a l => LnAt C H' a l 0 ∧ l ≠ []) as (lns.take i))
    ⟨[], rfl, upd_same, same_new hD _, fun _ z => absurd z List.not_mem_nil, List.nodup_nil, .nil⟩ (fun i H1 _ ⟨as, _, _, z, _⟩ => z.seq (SqL.of upd_same)) (fun i x H1 H2 hi hI hy => ?_) (fun H1 hI => ?_)
  · obtain ⟨T', x2, rfl, hT', rfl, hx2⟩ := hy
    obtain ⟨as, ha, hDD, hs, hfr, hnd, hpr⟩ := hI
    have hi' : i < lns.length := by
      rw [List.length_map, List.length_map] at hi
      exact hi
    have ex2 : x2 = .str (row lns[i]) := by
      rw [List.getElem?_map, List.getElem?_map, List.getElem?_eq_getElem hi'] at hx2
      exact (Option.some.inj hx2).symm
    subst ex2
    obtain ⟨k1, k2, k3⟩ := hl _ (List.getElem_mem hi')
    have s12 := same_new hT' (.tup [.int (1 + (i : Int)), .str (row lns[i])])
    refine ⟨T', _, rfl, SqT.of upd_same, rfl, _, _, rfl, _, _, rfl, rfl, rfl, _, rfl, _, rfl, fun x dx hx hdx ne => ?_⟩
    refine ⟨x, dx, _, lns[i], rfl, upd_same, k1, k2, by omega, fun H3 s3 L3 => ⟨rfl, ?_⟩⟩
    have s13 : Same H1 H3 := s12.trans (same_mk hx hdx s3)
    have hxH : H x = none := (sS.trans (hs.trans s12)).free hx
    refine ⟨_, s13 _ _ hDD, by rw [List.length_map, ha]; exact small1000 (by omega), as ++ [x], by rw [List.length_append, ha, List.length_singleton], by rw [upd_same, List.map_append]; rfl, same_at hD (hs.trans s13) _, ?_, ?_, ?_⟩
    · intro a hma
      rcases List.mem_append.mp hma with hma | hma
      · exact hfr a hma
      · rw [List.mem_singleton.mp hma]; exact hxH
    · refine List.nodup_append.mpr ⟨hnd, List.pairwise_singleton _ _, fun a hma b hmb z => ?_⟩
      rw [List.mem_singleton.mp hmb] at z
      subst z
      obtain ⟨j, hj, ej⟩ := List.mem_iff_getElem.mp hma
      obtain ⟨l, _, hla⟩ := paired_at hpr (List.getElem?_eq_getElem hj)
      rw [ej] at hla
      obtain ⟨d1, d2, d3, d4, g1, _⟩ := hla.1.ex
      rw [(s12 _ _ g1)] at hx
      cases hx
    · have upL : ∀ {a : Addr} {l : List Str}, l ≠ [] → LnAt C H3 a l 0 → LnAt C (upd H3 D (.lst (as.map V.ref ++ [.ref x]))) a l 0 := fun {a l} hne h => by
        obtain ⟨d1, d2, d3, d4, g1, g2⟩ := h.ex
        have gD := s13 _ _ hDD
        refine ⟨⟨d1, d2, d3, d4, by rw [upd_ne (ne_of g1 gD (fun z => nomatch z))]; exact g1, ?_⟩, h.ok⟩
        have n2 : d3 ≠ D := fun z => by
          rw [z, gD] at g2
          injection g2 with g2
          injection g2 with g2
          cases l with
          | nil => exact hne rfl
          | cons b bs => cases as with
            | nil => cases g2
            | cons c cs => cases g2
        rw [upd_ne n2]
        exact g2
      rw [List.take_add_one, List.getElem?_eq_getElem hi']
      exact paired_snoc (Paired.mapP hpr fun a l h => ⟨upL h.2 (h.1.same s13), h.2⟩) ⟨upL k1 L3, k1⟩
  · obtain ⟨as, ha, hDD, hs, hfr, hnd, hpr⟩ := hI
    rw [List.length_map, List.length_map, List.take_length] at hpr
    exact q D as H1 (sS.trans hs) hD0 hfr hnd hDD (Paired.mapP hpr fun a l h => h.1)
end
end DP
namespace DP
open PySem PySem.Spec PyProof.Rows L2
abbrev s_names_of : Stmt := topS 34
theorem sc_names_of : FnScope ["things", "thing"] ["things"] (defScope s_names_of) := ⟨rfl, rfl, rfl, by decide +kernel, rfl, by decide +kernel, by decide +kernel⟩
abbrev s_read_light : Stmt := topS 36
theorem sc_read_light : FnScope ["line", "horizon", "light", "least", "first"] ["line", "horizon"] (defScope s_read_light) := ⟨rfl, rfl, rfl, by decide +kernel, rfl, by decide +kernel, by decide +kernel⟩
abbrev s_read_satellite : Stmt := topS 35
theorem sc_read_satellite : FnScope ["line", "horizon", "things", "name", "store", "battery", "level", "reserve", "charge", "settle", "light"] ["line", "horizon", "things"] (defScope s_read_satellite) := ⟨rfl, rfl, rfl, by decide +kernel, rfl, by decide +kernel, by decide +kernel⟩
abbrev s_read_station : Stmt := topS 37
theorem sc_read_station : FnScope ["line", "_", "things", "name", "antennas", "turn"] ["line", "_", "things"] (defScope s_read_station) := ⟨rfl, rfl, rfl, by decide +kernel, rfl, by decide +kernel, by decide +kernel⟩
abbrev s_read_recording : Stmt := topS 38
theorem sc_read_recording : FnScope ["line", "horizon", "things", "name", "satellite", "earliest", "latest", "length", "size", "energy", "worth", "rank", "deadline"] ["line", "horizon", "things"] (defScope s_read_recording) := ⟨rfl, rfl, rfl, by decide +kernel, rfl, by decide +kernel, by decide +kernel⟩
abbrev s_read_pass : Stmt := topS 39
theorem sc_read_pass : FnScope ["line", "horizon", "things", "name", "satellite", "station", "first", "end", "room", "energy", "fee"] ["line", "horizon", "things"] (defScope s_read_pass) := ⟨rfl, rfl, rfl, by decide +kernel, rfl, by decide +kernel, by decide +kernel⟩
abbrev s_most_things : Stmt := topS 44
theorem sc_most_things : FnScope ["sort", "most"] ["sort"] (defScope s_most_things) := ⟨rfl, rfl, rfl, by decide +kernel, rfl, by decide +kernel, by decide +kernel⟩
abbrev s_read_sort : Stmt := topS 43
theorem sc_read_sort : FnScope ["line", "ahead", "things", "word", "sort"] ["line", "ahead", "things"] (defScope s_read_sort) := ⟨rfl, rfl, rfl, by decide +kernel, rfl, by decide +kernel, by decide +kernel⟩
abbrev s_read_things : Stmt := topS 42
theorem sc_read_things : FnScope ["lines", "horizon", "things", "sort", "line", "reader"] ["lines", "horizon"] (defScope s_read_things) := ⟨rfl, rfl, rfl, by decide +kernel, rfl, by decide +kernel, by decide +kernel⟩
abbrev s_Satellite___init__ : Stmt := inClass (topS 27) 0
theorem sc_Satellite___init__ : FnScope ["self", "name", "store", "battery", "start_level", "reserve", "charge", "settle", "light"] ["self", "name", "store", "battery", "start_level", "reserve", "charge", "settle", "light"] (defScope s_Satellite___init__) := ⟨rfl, rfl, rfl, by decide +kernel, rfl, by decide +kernel, by decide +kernel⟩
abbrev s_Station___init__ : Stmt := inClass (topS 28) 0
theorem sc_Station___init__ : FnScope ["self", "name", "antennas", "turn"] ["self", "name", "antennas", "turn"] (defScope s_Station___init__) := ⟨rfl, rfl, rfl, by decide +kernel, rfl, by decide +kernel, by decide +kernel⟩
abbrev s_Recording___init__ : Stmt := inClass (topS 29) 0
theorem sc_Recording___init__ : FnScope ["self", "name", "satellite", "earliest", "latest", "length", "size", "energy", "worth", "rank", "deadline"] ["self", "name", "satellite", "earliest", "latest", "length", "size", "energy", "worth", "rank", "deadline"] (defScope s_Recording___init__) := ⟨rfl, rfl, rfl, by decide +kernel, rfl, by decide +kernel, by decide +kernel⟩
abbrev s_Pass___init__ : Stmt := inClass (topS 30) 0
theorem sc_Pass___init__ : FnScope ["self", "name", "satellite", "station", "span", "room", "energy", "fee"] ["self", "name", "satellite", "station", "span", "room", "energy", "fee"] (defScope s_Pass___init__) := ⟨rfl, rfl, rfl, by decide +kernel, rfl, by decide +kernel, by decide +kernel⟩
abbrev s_World___init__ : Stmt := inClass (topS 31) 6
theorem sc_World___init__ : FnScope ["self", "text", "horizon", "things", "satellites", "stations", "recordings", "passes"] ["self", "text", "horizon", "things"] (defScope s_World___init__) := ⟨rfl, rfl, rfl, by decide +kernel, rfl, by decide +kernel, by decide +kernel⟩
abbrev s_World_parse : Stmt := inClass (topS 31) 7
theorem sc_World_parse : FnScope ["text", "lines", "horizon"] ["text"] (defScope s_World_parse) := ⟨rfl, rfl, rfl, by decide +kernel, rfl, by decide +kernel, by decide +kernel⟩
theorem SameX.new {a L : Addr} {H H' : Hp} {o : HO} (hL : H L = none) (s : SameX a H H') : SameX a H (L2.upd H' L o) := fun b u n h => by
  rw [upd_ne (ne_of_none h hL)]
  exact s b u n h
theorem SameX.sqT {K : PySem.W.Frag} {H H' : Hp} {a t C dx : Addr} {fs : List (Str × V)} {xs : List V} (s : SameX a H H') (ha : H a = some (.ins C dx fs)) (h : SqT K H t xs) : SqT K H' t xs := by
  rcases h with (h | ⟨u, h⟩) | h
  · exact .inl (.inl (s _ _ (ne_of h ha (fun z => nomatch z)) h))
  · exact .inl (.inr ⟨u, s _ _ (ne_of h ha (fun z => nomatch z)) h⟩)
  · exact .inr h
theorem SameX.sqL {K : PySem.W.Frag} {H H' : Hp} {a t C dx : Addr} {fs : List (Str × V)} {xs : List V} (s : SameX a H H') (ha : H a = some (.ins C dx fs)) (h : SqL K H t xs) : SqL K H' t xs := by
  rcases h with (h | ⟨u, h⟩) | h
  · exact .inl (.inl (s _ _ (ne_of h ha (fun z => nomatch z)) h))
  · exact .inl (.inr ⟨u, s _ _ (ne_of h ha (fun z => nomatch z)) h⟩)
  · exact .inr h
theorem SameX.spans {K : PySem.W.Frag} {H H' : Hp} {a C dx : Addr} {fs : List (Str × V)} {xs : List V} {qs : List (Int × Int)} (s : SameX a H H') (ha : H a = some (.ins C dx fs)) (h : Spans K H xs qs) : Spans K H' xs qs :=
  Paired.mapP h fun _ _ ⟨t, h1, h2⟩ => ⟨t, h1, s.sqT ha h2⟩
/-- an object with a name -/
def Named (K : PySem.W.Frag) (H : Hp) (x : V) (nm : Str) : Prop := ∃ a C dx fs, x = .ref a ∧ H a = some (.ins C dx fs) ∧ Cls K C ∧ NoAttr K C "name" ∧ fs.lookup ("name" : Str) = some (.str nm)
theorem Named.same {K : PySem.W.Frag} {H H' : Hp} {x : V} {nm : Str} (h : Named K H x nm) (s : Same H H') : Named K H' x nm := by
  obtain ⟨a, C, dx, fs, h1, h2, h3⟩ := h
  exact ⟨a, C, dx, fs, h1, s _ _ h2, h3⟩
section
variable {P : Program} {w : World} {K : PySem.W.Frag} {mg : Str → Option Value} {base : Heap}
def spNames (K : PySem.W.Frag) : Sp := fun vs H Q _ => ∃ (l : Addr) (xs : List V) (ns : List Str), vs = [.ref l] ∧ SqL K H l xs ∧ Paired (Named K H) xs ns ∧ ns.length ≤ 100 ∧
  ∀ p H', Same H H' → H p = none → H' p = some (.lst (ns.map V.str)) → Q (.ref p) H'
theorem d_names_of (B : Bt mg) (A : At K mg "names_of" s_names_of ["things"]) : DefOk P w K mg base CX0 1 "names_of" ["things"] (spNames K) := by
  refine A.ok sc_names_of (fun vs H Q E h => ?_) (fun f cdv A outer s H vs Q E hr h => ?_)
  · obtain ⟨l, xs, ns, rfl, _⟩ := h
    rfl
  obtain ⟨l, xs, ns, rfl, hl, hp, hn, q⟩ := h
  have hlen := paired_len hp
  refine ⟨_, pss_one (ps_ret (pe_lc (own := [("thing", 1)])  rfl sc_names_of.nd (pi_list (pv 0)) (blkOk_by (own := [("thing", 1)]) (N := ["things", "thing"]) (sc := defScope s_names_of) (by decide +kernel)) (fun _ _ _ _ _ => pg_name (i := 1) sc_names_of.nd rfl (Or.inl rfl)) (fun _ _ _ _ _ => pts_nil) (fun _ _ _ _ _ => (pe_fldK (K := K) rfl (pv 1) rfl))))
    , ?_⟩
  refine ⟨_, rfl, l, rfl, ⟨_, hl⟩, fun D hD => ?_⟩
  refine lc_list (K := K) (a := l) (xs := xs) (fun i H' => Same H H' ∧ H' D = some (.lst ((ns.take i).map V.str))) ⟨same_new hD _, upd_same⟩ (fun i H' _ h => h.1.seq hl) (fun i x H1 hx hI => ?_) (fun H1 hI => ?_)
  · obtain ⟨hs, hDD⟩ := hI
    obtain ⟨nm, hnm, hx2⟩ := paired_at hp hx
    obtain ⟨a, C, dx, fs, rfl, h2, h3, h4, h5⟩ := hx2
    refine ⟨rfl, _, rfl, a, C, dx, fs, _, rfl, hs _ _ h2, h3, h4, h5, _, hDD, ?_, same_at hD hs _, ?_⟩
    · rw [List.length_map, List.length_take]
      exact small1000 (by omega)
    · rw [upd_same, List.take_add_one, hnm, List.map_append]
      rfl
  · obtain ⟨hs, hDD⟩ := hI
    rw [hlen, List.take_length] at hDD
    exact q D H1 hs hD hDD
end
def satF (s : SatD) (t : Addr) : List (Str × V) := [("name", .str s.name), ("store", .int s.store), ("battery", .int s.battery), ("start_level", .int s.level), ("reserve", .int s.reserve), ("charge", .int s.charge), ("settle", .int s.settle), ("light", .ref t)]
def staF (s : StaD) : List (Str × V) := [("name", .str s.name), ("antennas", .int s.antennas), ("turn", .int s.turn)]
def recF (r : RecD) : List (Str × V) := [("name", .str r.name), ("satellite", .int (r.sat : Int)), ("earliest", .int r.earliest), ("latest", .int r.latest), ("length", .int r.length), ("size", .int r.size), ("energy", .int r.energy), ("worth", .int r.worth), ("rank", .int r.rank), ("deadline", .int r.deadline)]
def pasF (p : PasD) (t : Addr) : List (Str × V) := [("name", .str p.name), ("satellite", .int (p.sat : Int)), ("station", .int (p.sta : Int)), ("span", .ref t), ("room", .int p.room), ("energy", .int p.energy), ("fee", .int p.fee)]
def SatAt (K : PySem.W.Frag) (C : Addr) (H : Hp) (x : V) (s : SatD) : Prop := ∃ a dx t ls, x = .ref a ∧ H a = some (.ins C dx (satF s t)) ∧ SqT K H t ls ∧ Spans K H ls s.light
def StaAt (C : Addr) (H : Hp) (x : V) (s : StaD) : Prop := ∃ a dx, x = .ref a ∧ H a = some (.ins C dx (staF s))
def RecAt (C : Addr) (H : Hp) (x : V) (r : RecD) : Prop := ∃ a dx, x = .ref a ∧ H a = some (.ins C dx (recF r))
def PasAt (K : PySem.W.Frag) (C : Addr) (H : Hp) (x : V) (p : PasD) : Prop := ∃ a dx t, x = .ref a ∧ H a = some (.ins C dx (pasF p t)) ∧ SqT K H t [.int p.first, .int p.fin]
/-- a line stays apart from the other objects: their fields are more or fewer -/
theorem SameX.ins {H H' : Hp} {a b C D dx dy : Addr} {fs gs : List (Str × V)} (s : SameX a H H') (ha : H a = some (.ins C dx fs)) (hb : H b = some (.ins D dy gs)) (n : gs.length ≠ fs.length) : H' b = some (.ins D dy gs) := s b _ (ins_ne hb ha n) hb
/-- what the text tells of the other classes -/
structure TxtW (K : PySem.W.Frag) (mg : Str → Option Value) (CL CS CT CR CP CW aS aR fS fT fR fP : Addr) : Prop where
  L : TxtL K mg CL
  c_Satellite : ClsAt K mg "Satellite" CS
  c_Station : ClsAt K mg "Station" CT
  c_Recording : ClsAt K mg "Recording" CR
  c_Pass : ClsAt K mg "Pass" CP
  c_World : ClsAt K mg "World" CW
  n_Satellite_name : NoAttr K CS "name"
  n_Satellite_store : NoAttr K CS "store"
  n_Satellite_battery : NoAttr K CS "battery"
  n_Satellite_start_level : NoAttr K CS "start_level"
  n_Satellite_reserve : NoAttr K CS "reserve"
  n_Satellite_charge : NoAttr K CS "charge"
  n_Satellite_settle : NoAttr K CS "settle"
  n_Satellite_light : NoAttr K CS "light"
  n_Station_name : NoAttr K CT "name"
  n_Station_antennas : NoAttr K CT "antennas"
  n_Station_turn : NoAttr K CT "turn"
  n_Recording_name : NoAttr K CR "name"
  n_Recording_satellite : NoAttr K CR "satellite"
  n_Recording_earliest : NoAttr K CR "earliest"
  n_Recording_latest : NoAttr K CR "latest"
  n_Recording_length : NoAttr K CR "length"
  n_Recording_size : NoAttr K CR "size"
  n_Recording_energy : NoAttr K CR "energy"
  n_Recording_worth : NoAttr K CR "worth"
  n_Recording_rank : NoAttr K CR "rank"
  n_Recording_deadline : NoAttr K CR "deadline"
  n_Pass_name : NoAttr K CP "name"
  n_Pass_satellite : NoAttr K CP "satellite"
  n_Pass_station : NoAttr K CP "station"
  n_Pass_span : NoAttr K CP "span"
  n_Pass_room : NoAttr K CP "room"
  n_Pass_energy : NoAttr K CP "energy"
  n_Pass_fee : NoAttr K CP "fee"
  n_World_text : NoAttr K CW "text"
  n_World_horizon : NoAttr K CW "horizon"
  n_World_satellites : NoAttr K CW "satellites"
  n_World_stations : NoAttr K CW "stations"
  n_World_recordings : NoAttr K CW "recordings"
  n_World_passes : NoAttr K CW "passes"
  g_SATELLITES : ∃ t, mg "SATELLITES" = some (.int 0 t)
  g_STATIONS : ∃ t, mg "STATIONS" = some (.int 1 t)
  g_RECORDINGS : ∃ t, mg "RECORDINGS" = some (.int 2 t)
  g_PASSES : ∃ t, mg "PASSES" = some (.int 3 t)
  g_MOST_UNITS : ∃ t, mg "MOST_UNITS" = some (.int 1000000 t)
  g_MOST_CHARGE : ∃ t, mg "MOST_CHARGE" = some (.int 1000 t)
  g_MOST_DELAY : ∃ t, mg "MOST_DELAY" = some (.int 60 t)
  g_MOST_ANTENNAS : ∃ t, mg "MOST_ANTENNAS" = some (.int 3 t)
  g_MOST_WORTH : ∃ t, mg "MOST_WORTH" = some (.int 1000 t)
  g_MOST_RANK : ∃ t, mg "MOST_RANK" = some (.int 3 t)
  g_MOST_FEE : ∃ t, mg "MOST_FEE" = some (.int 1000 t)
  g_SORTS : mg "SORTS" = some (.ref aS)
  t_SORTS : ∀ H, SqT K H aS (([("satellite" : Str), "station", "recording", "pass"]).map V.str)
  k_SORTS : ∃ o, K.lookup aS = some o ∧ o.cls = .type "tuple" ∧ o.dict = none
  g_READERS : mg "READERS" = some (.ref aR)
  t_READERS : ∀ H, SqT K H aR [.ref fS, .ref fT, .ref fR, .ref fP]
  r_satellite : mg "read_satellite" = some (.ref fS)
  r_station : mg "read_station" = some (.ref fT)
  r_recording : mg "read_recording" = some (.ref fR)
  r_pass : mg "read_pass" = some (.ref fP)
  rdW : ClX.CRead K CW (.type "type")
  v_MOST_HORIZON : ∃ t, ClX.CVal K CW (.type "type") "MOST_HORIZON" (.int 500) (.int 500 t)
  v_MOST_SATELLITES : ∃ t, ClX.CVal K CW (.type "type") "MOST_SATELLITES" (.int 3) (.int 3 t)
  v_MOST_STATIONS : ∃ t, ClX.CVal K CW (.type "type") "MOST_STATIONS" (.int 3) (.int 3 t)
  v_MOST_RECORDINGS : ∃ t, ClX.CVal K CW (.type "type") "MOST_RECORDINGS" (.int 10) (.int 10 t)
  v_MOST_PASSES : ∃ t, ClX.CVal K CW (.type "type") "MOST_PASSES" (.int 10) (.int 10 t)
  v_MOST_SHIFT : ∃ t, ClX.CVal K CW (.type "type") "MOST_SHIFT" (.int 20) (.int 20 t)
section
variable {P : Program} {w : World} {K : PySem.W.Frag} {mg : Str → Option Value} {base : Heap} {CL CS CT CR CP CW aS aR fS fT fR fP : Addr}
theorem TxtW.c_Line (T : TxtW K mg CL CS CT CR CP CW aS aR fS fT fR fP) : ClsAt K mg "Line" CL := T.L.c_Line
def spI_Satellite (C : Addr) : Sp := fun vs H Q _ => ∃ (x dx : Addr) (v0 v1 v2 v3 v4 v5 v6 v7 : V), vs = [.ref x, v0, v1, v2, v3, v4, v5, v6, v7] ∧ H x = some (.ins C dx []) ∧
  Q .non (upd H x (.ins C dx [("name", v0), ("store", v1), ("battery", v2), ("start_level", v3), ("reserve", v4), ("charge", v5), ("settle", v6), ("light", v7)]))
theorem dI_Satellite (T : TxtW K mg CL CS CT CR CP CW aS aR fS fT fR fP) (A : MAt K CS "__init__" "Satellite.__init__" s_Satellite___init__ ["self", "name", "store", "battery", "start_level", "reserve", "charge", "settle", "light"]) : MDef P w K mg base CX0 1 CS "__init__" ["self", "name", "store", "battery", "start_level", "reserve", "charge", "settle", "light"] [] (spI_Satellite CS) := by
  refine A.ok sc_Satellite___init__ (fun vs H Q E h => ?_) (fun f cdv A outer s H vs Q E hr h => ?_)
  · obtain ⟨x, dx, v0, v1, v2, v3, v4, v5, v6, v7, rfl, _⟩ := h
    rfl
  obtain ⟨x, dx, v0, v1, v2, v3, v4, v5, v6, v7, rfl, hx, q⟩ := h
  refine ⟨_, pss_cons (ps_fld (pv 0) (pv 1) rfl)
  (pss_cons (ps_fld (pv 0) (pv 2) rfl)
  (pss_cons (ps_fld (pv 0) (pv 3) rfl)
  (pss_cons (ps_fld (pv 0) (pv 4) rfl)
  (pss_cons (ps_fld (pv 0) (pv 5) rfl)
  (pss_cons (ps_fld (pv 0) (pv 6) rfl)
  (pss_cons (ps_fld (pv 0) (pv 7) rfl)
  (pss_one (ps_fld (pv 0) (pv 8) rfl)))))))), ?_⟩
  refine ⟨_, rfl, _, rfl, x, CS, dx, _, rfl, hx, T.c_Satellite.cl, T.n_Satellite_name, (by show 0 < 1000; decide), ?_⟩
  rw [put_nil]
  refine ⟨_, rfl, _, rfl, x, CS, dx, _, rfl, upd_same, T.c_Satellite.cl, T.n_Satellite_store, (by show 1 < 1000; decide), ?_⟩
  rw [upd_upd]
  rw [put_miss (by decide +kernel)]
  rw [put_nil]
  refine ⟨_, rfl, _, rfl, x, CS, dx, _, rfl, upd_same, T.c_Satellite.cl, T.n_Satellite_battery, (by show 2 < 1000; decide), ?_⟩
  rw [upd_upd]
  rw [put_miss (by decide +kernel)]
  rw [put_miss (by decide +kernel)]
  rw [put_nil]
  refine ⟨_, rfl, _, rfl, x, CS, dx, _, rfl, upd_same, T.c_Satellite.cl, T.n_Satellite_start_level, (by show 3 < 1000; decide), ?_⟩
  rw [upd_upd]
  rw [put_miss (by decide +kernel)]
  rw [put_miss (by decide +kernel)]
  rw [put_miss (by decide +kernel)]
  rw [put_nil]
  refine ⟨_, rfl, _, rfl, x, CS, dx, _, rfl, upd_same, T.c_Satellite.cl, T.n_Satellite_reserve, (by show 4 < 1000; decide), ?_⟩
  rw [upd_upd]
  rw [put_miss (by decide +kernel)]
  rw [put_miss (by decide +kernel)]
  rw [put_miss (by decide +kernel)]
  rw [put_miss (by decide +kernel)]
  rw [put_nil]
  refine ⟨_, rfl, _, rfl, x, CS, dx, _, rfl, upd_same, T.c_Satellite.cl, T.n_Satellite_charge, (by show 5 < 1000; decide), ?_⟩
  rw [upd_upd]
  rw [put_miss (by decide +kernel)]
  rw [put_miss (by decide +kernel)]
  rw [put_miss (by decide +kernel)]
  rw [put_miss (by decide +kernel)]
  rw [put_miss (by decide +kernel)]
  rw [put_nil]
  refine ⟨_, rfl, _, rfl, x, CS, dx, _, rfl, upd_same, T.c_Satellite.cl, T.n_Satellite_settle, (by show 6 < 1000; decide), ?_⟩
  rw [upd_upd]
  rw [put_miss (by decide +kernel)]
  rw [put_miss (by decide +kernel)]
  rw [put_miss (by decide +kernel)]
  rw [put_miss (by decide +kernel)]
  rw [put_miss (by decide +kernel)]
  rw [put_miss (by decide +kernel)]
  rw [put_nil]
  refine ⟨_, rfl, _, rfl, x, CS, dx, _, rfl, upd_same, T.c_Satellite.cl, T.n_Satellite_light, (by show 7 < 1000; decide), ?_⟩
  rw [upd_upd]
  rw [put_miss (by decide +kernel)]
  rw [put_miss (by decide +kernel)]
  rw [put_miss (by decide +kernel)]
  rw [put_miss (by decide +kernel)]
  rw [put_miss (by decide +kernel)]
  rw [put_miss (by decide +kernel)]
  rw [put_miss (by decide +kernel)]
  rw [put_nil]
  exact q
def spI_Station (C : Addr) : Sp := fun vs H Q _ => ∃ (x dx : Addr) (v0 v1 v2 : V), vs = [.ref x, v0, v1, v2] ∧ H x = some (.ins C dx []) ∧
  Q .non (upd H x (.ins C dx [("name", v0), ("antennas", v1), ("turn", v2)]))
theorem dI_Station (T : TxtW K mg CL CS CT CR CP CW aS aR fS fT fR fP) (A : MAt K CT "__init__" "Station.__init__" s_Station___init__ ["self", "name", "antennas", "turn"]) : MDef P w K mg base CX0 1 CT "__init__" ["self", "name", "antennas", "turn"] [] (spI_Station CT) := by
  refine A.ok sc_Station___init__ (fun vs H Q E h => ?_) (fun f cdv A outer s H vs Q E hr h => ?_)
  · obtain ⟨x, dx, v0, v1, v2, rfl, _⟩ := h
    rfl
  obtain ⟨x, dx, v0, v1, v2, rfl, hx, q⟩ := h
  refine ⟨_, pss_cons (ps_fld (pv 0) (pv 1) rfl)
  (pss_cons (ps_fld (pv 0) (pv 2) rfl)
  (pss_one (ps_fld (pv 0) (pv 3) rfl))), ?_⟩
  refine ⟨_, rfl, _, rfl, x, CT, dx, _, rfl, hx, T.c_Station.cl, T.n_Station_name, (by show 0 < 1000; decide), ?_⟩
  rw [put_nil]
  refine ⟨_, rfl, _, rfl, x, CT, dx, _, rfl, upd_same, T.c_Station.cl, T.n_Station_antennas, (by show 1 < 1000; decide), ?_⟩
  rw [upd_upd]
  rw [put_miss (by decide +kernel)]
  rw [put_nil]
  refine ⟨_, rfl, _, rfl, x, CT, dx, _, rfl, upd_same, T.c_Station.cl, T.n_Station_turn, (by show 2 < 1000; decide), ?_⟩
  rw [upd_upd]
  rw [put_miss (by decide +kernel)]
  rw [put_miss (by decide +kernel)]
  rw [put_nil]
  exact q
def spI_Recording (C : Addr) : Sp := fun vs H Q _ => ∃ (x dx : Addr) (v0 v1 v2 v3 v4 v5 v6 v7 v8 v9 : V), vs = [.ref x, v0, v1, v2, v3, v4, v5, v6, v7, v8, v9] ∧ H x = some (.ins C dx []) ∧
  Q .non (upd H x (.ins C dx [("name", v0), ("satellite", v1), ("earliest", v2), ("latest", v3), ("length", v4), ("size", v5), ("energy", v6), ("worth", v7), ("rank", v8), ("deadline", v9)]))
theorem dI_Recording (T : TxtW K mg CL CS CT CR CP CW aS aR fS fT fR fP) (A : MAt K CR "__init__" "Recording.__init__" s_Recording___init__ ["self", "name", "satellite", "earliest", "latest", "length", "size", "energy", "worth", "rank", "deadline"]) : MDef P w K mg base CX0 1 CR "__init__" ["self", "name", "satellite", "earliest", "latest", "length", "size", "energy", "worth", "rank", "deadline"] [] (spI_Recording CR) := by
  refine A.ok sc_Recording___init__ (fun vs H Q E h => ?_) (fun f cdv A outer s H vs Q E hr h => ?_)
  · obtain ⟨x, dx, v0, v1, v2, v3, v4, v5, v6, v7, v8, v9, rfl, _⟩ := h
    rfl
  obtain ⟨x, dx, v0, v1, v2, v3, v4, v5, v6, v7, v8, v9, rfl, hx, q⟩ := h
  refine ⟨_, pss_cons (ps_fld (pv 0) (pv 1) rfl)
  (pss_cons (ps_fld (pv 0) (pv 2) rfl)
  (pss_cons (ps_fld (pv 0) (pv 3) rfl)
  (pss_cons (ps_fld (pv 0) (pv 4) rfl)
  (pss_cons (ps_fld (pv 0) (pv 5) rfl)
  (pss_cons (ps_fld (pv 0) (pv 6) rfl)
  (pss_cons (ps_fld (pv 0) (pv 7) rfl)
  (pss_cons (ps_fld (pv 0) (pv 8) rfl)
  (pss_cons (ps_fld (pv 0) (pv 9) rfl)
  (pss_one (ps_fld (pv 0) (pv 10) rfl)))))))))), ?_⟩
  refine ⟨_, rfl, _, rfl, x, CR, dx, _, rfl, hx, T.c_Recording.cl, T.n_Recording_name, (by show 0 < 1000; decide), ?_⟩
  rw [put_nil]
  refine ⟨_, rfl, _, rfl, x, CR, dx, _, rfl, upd_same, T.c_Recording.cl, T.n_Recording_satellite, (by show 1 < 1000; decide), ?_⟩
  rw [upd_upd]
  rw [put_miss (by decide +kernel)]
  rw [put_nil]
  refine ⟨_, rfl, _, rfl, x, CR, dx, _, rfl, upd_same, T.c_Recording.cl, T.n_Recording_earliest, (by show 2 < 1000; decide), ?_⟩
  rw [upd_upd]
  rw [put_miss (by decide +kernel)]
  rw [put_miss (by decide +kernel)]
  rw [put_nil]
  refine ⟨_, rfl, _, rfl, x, CR, dx, _, rfl, upd_same, T.c_Recording.cl, T.n_Recording_latest, (by show 3 < 1000; decide), ?_⟩
  rw [upd_upd]
  rw [put_miss (by decide +kernel)]
  rw [put_miss (by decide +kernel)]
  rw [put_miss (by decide +kernel)]
  rw [put_nil]
  refine ⟨_, rfl, _, rfl, x, CR, dx, _, rfl, upd_same, T.c_Recording.cl, T.n_Recording_length, (by show 4 < 1000; decide), ?_⟩
  rw [upd_upd]
  rw [put_miss (by decide +kernel)]
  rw [put_miss (by decide +kernel)]
  rw [put_miss (by decide +kernel)]
  rw [put_miss (by decide +kernel)]
  rw [put_nil]
  refine ⟨_, rfl, _, rfl, x, CR, dx, _, rfl, upd_same, T.c_Recording.cl, T.n_Recording_size, (by show 5 < 1000; decide), ?_⟩
  rw [upd_upd]
  rw [put_miss (by decide +kernel)]
  rw [put_miss (by decide +kernel)]
  rw [put_miss (by decide +kernel)]
  rw [put_miss (by decide +kernel)]
  rw [put_miss (by decide +kernel)]
  rw [put_nil]
  refine ⟨_, rfl, _, rfl, x, CR, dx, _, rfl, upd_same, T.c_Recording.cl, T.n_Recording_energy, (by show 6 < 1000; decide), ?_⟩
  rw [upd_upd]
  rw [put_miss (by decide +kernel)]
  rw [put_miss (by decide +kernel)]
  rw [put_miss (by decide +kernel)]
  rw [put_miss (by decide +kernel)]
  rw [put_miss (by decide +kernel)]
  rw [put_miss (by decide +kernel)]
  rw [put_nil]
  refine ⟨_, rfl, _, rfl, x, CR, dx, _, rfl, upd_same, T.c_Recording.cl, T.n_Recording_worth, (by show 7 < 1000; decide), ?_⟩
  rw [upd_upd]
  rw [put_miss (by decide +kernel)]
  rw [put_miss (by decide +kernel)]
  rw [put_miss (by decide +kernel)]
  rw [put_miss (by decide +kernel)]
  rw [put_miss (by decide +kernel)]
  rw [put_miss (by decide +kernel)]
  rw [put_miss (by decide +kernel)]
  rw [put_nil]
  refine ⟨_, rfl, _, rfl, x, CR, dx, _, rfl, upd_same, T.c_Recording.cl, T.n_Recording_rank, (by show 8 < 1000; decide), ?_⟩
  rw [upd_upd]
  rw [put_miss (by decide +kernel)]
  rw [put_miss (by decide +kernel)]
  rw [put_miss (by decide +kernel)]
  rw [put_miss (by decide +kernel)]
  rw [put_miss (by decide +kernel)]
  rw [put_miss (by decide +kernel)]
  rw [put_miss (by decide +kernel)]
  rw [put_miss (by decide +kernel)]
  rw [put_nil]
  refine ⟨_, rfl, _, rfl, x, CR, dx, _, rfl, upd_same, T.c_Recording.cl, T.n_Recording_deadline, (by show 9 < 1000; decide), ?_⟩
  rw [upd_upd]
  rw [put_miss (by decide +kernel)]
  rw [put_miss (by decide +kernel)]
  rw [put_miss (by decide +kernel)]
  rw [put_miss (by decide +kernel)]
  rw [put_miss (by decide +kernel)]
  rw [put_miss (by decide +kernel)]
  rw [put_miss (by decide +kernel)]
  rw [put_miss (by decide +kernel)]
  rw [put_miss (by decide +kernel)]
  rw [put_nil]
  exact q
def spI_Pass (C : Addr) : Sp := fun vs H Q _ => ∃ (x dx : Addr) (v0 v1 v2 v3 v4 v5 v6 : V), vs = [.ref x, v0, v1, v2, v3, v4, v5, v6] ∧ H x = some (.ins C dx []) ∧
  Q .non (upd H x (.ins C dx [("name", v0), ("satellite", v1), ("station", v2), ("span", v3), ("room", v4), ("energy", v5), ("fee", v6)]))
theorem dI_Pass (T : TxtW K mg CL CS CT CR CP CW aS aR fS fT fR fP) (A : MAt K CP "__init__" "Pass.__init__" s_Pass___init__ ["self", "name", "satellite", "station", "span", "room", "energy", "fee"]) : MDef P w K mg base CX0 1 CP "__init__" ["self", "name", "satellite", "station", "span", "room", "energy", "fee"] [] (spI_Pass CP) := by
  refine A.ok sc_Pass___init__ (fun vs H Q E h => ?_) (fun f cdv A outer s H vs Q E hr h => ?_)
  · obtain ⟨x, dx, v0, v1, v2, v3, v4, v5, v6, rfl, _⟩ := h
    rfl
  obtain ⟨x, dx, v0, v1, v2, v3, v4, v5, v6, rfl, hx, q⟩ := h
  refine ⟨_, pss_cons (ps_fld (pv 0) (pv 1) rfl)
  (pss_cons (ps_fld (pv 0) (pv 2) rfl)
  (pss_cons (ps_fld (pv 0) (pv 3) rfl)
  (pss_cons (ps_fld (pv 0) (pv 4) rfl)
  (pss_cons (ps_fld (pv 0) (pv 5) rfl)
  (pss_cons (ps_fld (pv 0) (pv 6) rfl)
  (pss_one (ps_fld (pv 0) (pv 7) rfl))))))), ?_⟩
  refine ⟨_, rfl, _, rfl, x, CP, dx, _, rfl, hx, T.c_Pass.cl, T.n_Pass_name, (by show 0 < 1000; decide), ?_⟩
  rw [put_nil]
  refine ⟨_, rfl, _, rfl, x, CP, dx, _, rfl, upd_same, T.c_Pass.cl, T.n_Pass_satellite, (by show 1 < 1000; decide), ?_⟩
  rw [upd_upd]
  rw [put_miss (by decide +kernel)]
  rw [put_nil]
  refine ⟨_, rfl, _, rfl, x, CP, dx, _, rfl, upd_same, T.c_Pass.cl, T.n_Pass_station, (by show 2 < 1000; decide), ?_⟩
  rw [upd_upd]
  rw [put_miss (by decide +kernel)]
  rw [put_miss (by decide +kernel)]
  rw [put_nil]
  refine ⟨_, rfl, _, rfl, x, CP, dx, _, rfl, upd_same, T.c_Pass.cl, T.n_Pass_span, (by show 3 < 1000; decide), ?_⟩
  rw [upd_upd]
  rw [put_miss (by decide +kernel)]
  rw [put_miss (by decide +kernel)]
  rw [put_miss (by decide +kernel)]
  rw [put_nil]
  refine ⟨_, rfl, _, rfl, x, CP, dx, _, rfl, upd_same, T.c_Pass.cl, T.n_Pass_room, (by show 4 < 1000; decide), ?_⟩
  rw [upd_upd]
  rw [put_miss (by decide +kernel)]
  rw [put_miss (by decide +kernel)]
  rw [put_miss (by decide +kernel)]
  rw [put_miss (by decide +kernel)]
  rw [put_nil]
  refine ⟨_, rfl, _, rfl, x, CP, dx, _, rfl, upd_same, T.c_Pass.cl, T.n_Pass_energy, (by show 5 < 1000; decide), ?_⟩
  rw [upd_upd]
  rw [put_miss (by decide +kernel)]
  rw [put_miss (by decide +kernel)]
  rw [put_miss (by decide +kernel)]
  rw [put_miss (by decide +kernel)]
  rw [put_miss (by decide +kernel)]
  rw [put_nil]
  refine ⟨_, rfl, _, rfl, x, CP, dx, _, rfl, upd_same, T.c_Pass.cl, T.n_Pass_fee, (by show 6 < 1000; decide), ?_⟩
  rw [upd_upd]
  rw [put_miss (by decide +kernel)]
  rw [put_miss (by decide +kernel)]
  rw [put_miss (by decide +kernel)]
  rw [put_miss (by decide +kernel)]
  rw [put_miss (by decide +kernel)]
  rw [put_miss (by decide +kernel)]
  rw [put_nil]
  exact q
def spLight (K : PySem.W.Frag) (CL : Addr) : Sp := fun vs H Q _ => ∃ (a : Addr) (ws : List Str) (r : Nat) (h : Int) (l : List (Int × Int)), vs = [.ref a, .int h] ∧ LnAt CL H a ws r ∧ r ≤ ws.length ∧ ws.drop r = lightW l ∧ LightOk 0 h l ∧ h ≤ 500 ∧ 0 ≤ h ∧
  ∀ t ls H', SameX a H H' → LnAt CL H' a ws ws.length → H' t = some (.tup ls) → Spans K H' ls l → Q (.ref t) H'
theorem drop_head {ws : List Str} {r : Nat} {u : Str} {t : List Str} (h : ws.drop r = u :: t) : ws[r]? = some u ∧ ws.drop (r + 1) = t := by
  have h1 : (ws.drop r)[0]? = some u := by rw [h]; rfl
  rw [List.getElem?_drop, Nat.add_zero] at h1
  refine ⟨h1, ?_⟩
  have h2 : (ws.drop r).drop 1 = t := by rw [h]; rfl
  rw [List.drop_drop] at h2
  exact h2
theorem drop_nil {ws : List Str} {r : Nat} (h : ws.drop r = []) : ws.length ≤ r := List.drop_eq_nil_iff.mp h
theorem d_read_light (T : TxtW K mg CL CS CT CR CP CW aS aR fS fT fR fP) (D_Line_has_more : MDef P w K mg base CX0 1 CL "has_more" ["self"] [] (spHasMore CL)) (D_Line_read_number : MDef P w K mg base CX0 3 CL "read_number" ["self", "least", "most"] [] (spNumber CL))
    (A : At K mg "read_light" s_read_light ["line", "horizon"]) : DefOk P w K mg base CX0 4 "read_light" ["line", "horizon"] (spLight K CL) := by
  have TW := T
  have T := T.L
  have B := T.B
  refine A.ok sc_read_light (fun vs H Q E h => ?_) (fun f cdv A outer s H vs Q E hr h => ?_)
  · obtain ⟨a, ws, r, h, l, rfl, _⟩ := h
    rfl
  obtain ⟨a, ws, r, h, l, rfl, hL, hrl, hd, hok, hh, hh0, q⟩ := h
  refine ⟨_, pss_cons (ps_set (i := 2) sc_read_light.nd rfl (Or.inl rfl) (pe_lst pa_nil))
  (pss_cons (ps_set (i := 3) sc_read_light.nd rfl (Or.inl rfl) pe_int)
  (pss_cons (ps_while PassesOwn.never (pt_val (pe_m0 D_Line_has_more T.c_Line.cl (hr.mono (by omega)) pass0 (pv 0)))
      (pss_cons (ps_set (i := 4) sc_read_light.nd rfl (Or.inl rfl) (pe_m D_Line_read_number T.c_Line.cl (hr.mono (by omega)) pass0 (pv 0) (pa_cons (pv 3) (pa_cons (pe_op op_sub (pv 1) pe_int) pa_nil))))
      (pss_cons (ps_set (i := 3) sc_read_light.nd rfl (Or.inl rfl) (pe_m D_Line_read_number T.c_Line.cl (hr.mono (by omega)) pass0 (pv 0) (pa_cons (pe_op op_add (pv 4) pe_int) (pa_cons (pv 1) pa_nil))))
      (pss_one (ps_expr (pe_bm PySem.F.plainAttrs_list PySem.F.slot_list_append PySem.F.type_list_append mt_append (pv 2) (pa_cons (pe_tup (pa_cons (pv 4) (pa_cons (pv 3) pa_nil))) pa_nil)))))))
  (pss_one (ps_ret (pe_callTy (call_tuple_of) (by rfl) B.tuple (by decide +kernel) (pa_cons (pv 2) pa_nil))))))
    , ?_⟩
  have no : ∀ {H' : Hp} {k : Nat}, LnAt CL H' a ws k → ∀ {m : Str}, (m == ("number" : Str)) = false → (m == ("words" : Str)) = false → (m == ("read" : Str)) = false → (m == ("column" : Str)) = false → ∃ dx fs, H' a = some (.ins CL dx fs) ∧ fs.lookup m = none := fun {H' k} hx {m} z1 z2 z3 z4 => by
    obtain ⟨dx, n, wl, c, h1, h2⟩ := hx.ex
    exact ⟨dx, _, h1, lnF_no z1 z2 z3 z4⟩
  refine ⟨Nat.zero_le _, fun L hLn => ?_⟩
  have eaL : a ≠ L := by
    obtain ⟨dx, n, wl, c, h1, h2⟩ := hL.ex
    exact ne_of_none h1 hLn
  refine ⟨fun n σ H' => ∃ (l1 l2 : List (Int × Int)) (ls : List V) (k : Nat) (le : Int) (y4 : Option V), n = l2.length ∧ l = l1 ++ l2 ∧ ws.drop k = lightW l2 ∧ k ≤ ws.length ∧ LightOk le h l2 ∧ 0 ≤ le ∧ l1.length ≤ 500 ∧ (l1.length : Int) ≤ le ∧
    σ = [some (.ref a), some (.int h), some (.ref L), some (.int le), y4] ∧ H' L = some (.lst ls) ∧ Spans K H' ls l1 ∧ LnAt CL H' a ws k ∧ SameX a H H', ⟨_, [], l, [], r, 0, none, rfl, rfl, hd, hrl, hok, Int.le_refl 0, Nat.zero_le _, Int.le_refl 0, rfl, upd_same, .nil, hL.same (same_new hLn _), SameX.of (same_new hLn _)⟩, fun n σ H' hI => ?_⟩
  obtain ⟨l1, l2, ls, k, le, y4, rfl, rfl, hdk, hk, hok2, hle, h500, hl1, rfl, hLL, hsp, hLk, hsx⟩ := hI
  obtain ⟨dx, fs, g1, g2⟩ := no hLk (m := "has_more") (by decide +kernel) (by decide +kernel) (by decide +kernel) (by decide +kernel)
  refine ⟨_, rfl, a, dx, fs, rfl, g1, g2, a, ws, k, rfl, hLk, _, rfl, ?_⟩
  cases l2 with
  | nil =>
    have hk2 := drop_nil hdk
    rw [decide_eq_false (by omega)]
    refine ⟨_, rfl, L, _, rfl, .inl ⟨SqL.of hLL, fun t ht => ?_⟩⟩
    rw [List.append_nil] at q
    refine q t ls _ (SameX.trans hsx (SameX.of (same_new ht _))) ?_ upd_same (hsp.same (same_new ht _))
    rw [show ws.length = k by omega]
    exact hLk.same (same_new ht _)
  | cons sp l2 =>
    obtain ⟨o1, o2, o3, o4⟩ := hok2
    obtain ⟨u1, hd1⟩ := drop_head (show ws.drop k = num sp.1 :: num sp.2 :: lightW l2 from hdk)
    obtain ⟨u2, hd2⟩ := drop_head hd1
    have k1 : k < ws.length := (List.getElem?_eq_some_iff.mp u1).1
    have k2 : k + 1 < ws.length := (List.getElem?_eq_some_iff.mp u2).1
    rw [decide_eq_true k1]
    refine ⟨fun σ' H'' => ∃ m, m < (sp :: l2).length ∧ ∃ (l1' l2' : List (Int × Int)) (ls : List V) (k : Nat) (le : Int) (y4 : Option V), m = l2'.length ∧ l1 ++ sp :: l2 = l1' ++ l2' ∧ ws.drop k = lightW l2' ∧ k ≤ ws.length ∧ LightOk le h l2' ∧ 0 ≤ le ∧ l1'.length ≤ 500 ∧ (l1'.length : Int) ≤ le ∧
      σ' = [some (.ref a), some (.int h), some (.ref L), some (.int le), y4] ∧ H'' L = some (.lst ls) ∧ Spans K H'' ls l1' ∧ LnAt CL H'' a ws k ∧ SameX a H H'', fun σ' H'' z => z, ?_⟩
    obtain ⟨dx, fs, g1, g2⟩ := no hLk (m := "read_number") (by decide +kernel) (by decide +kernel) (by decide +kernel) (by decide +kernel)
    refine ⟨_, rfl, a, dx, fs, rfl, g1, g2, _, rfl, _, rfl, _, _, rfl, rfl, a, ws, k, le, h - 1, sp.1, rfl, hLk, u1, by omega, by omega, o1, by omega, fun H1 s1 L1 => ?_⟩
    obtain ⟨dx1, fs1, g1', g2'⟩ := no L1 (m := "read_number") (by decide +kernel) (by decide +kernel) (by decide +kernel) (by decide +kernel)
    refine ⟨_, rfl, a, dx1, fs1, rfl, g1', g2', _, rfl, _, _, rfl, rfl, _, rfl, a, ws, k + 1, sp.1 + 1, h, sp.2, rfl, L1, u2, by omega, by omega, o2, o3, fun H2 s2 L2 => ?_⟩
    obtain ⟨dx2, n2, wl2, c2, g12, _⟩ := L2.ex
    have hL2 : H2 L = some (.lst ls) := s2 _ _ eaL.symm (s1 _ _ eaL.symm hLL)
    have hsp2 := s2.spans g1' (s1.spans g1 hsp)
    refine ⟨_, rfl, .inl ⟨rfl, _, SqL.of hL2⟩, _, rfl, _, rfl, (by show 2 ≤ sizeLine; decide), fun t ht => ?_⟩
    have eLt : L ≠ t := ne_of_none hL2 ht
    have hLt : (upd H2 t (.tup [.int sp.1, .int sp.2])) L = some (.lst ls) := by rw [upd_ne eLt]; exact hL2
    have hlsl := paired_len hsp
    refine ⟨L, ls, .ref t, rfl, rfl, hLt, by rw [hlsl]; exact small1000 (by omega), ?_⟩
    refine ⟨l2.length, by rw [List.length_cons]; omega, l1 ++ [sp], l2, ls ++ [.ref t], k + 2, sp.2, _, rfl, by rw [List.append_assoc]; rfl, hd2, by omega, o4, by omega, by rw [List.length_append, List.length_singleton]; omega, by rw [List.length_append, List.length_singleton]; omega, rfl, upd_same, ?_, ?_, ?_⟩
    · exact Spans.upd (paired_snoc (hsp2.same (same_new ht _)) ⟨t, rfl, SqT.of upd_same⟩) hLt
    · have L2t := L2.same (same_new ht (.tup [.int sp.1, .int sp.2]))
      obtain ⟨dx3, n3, wl3, c3, z1, z2⟩ := L2t.ex
      refine ⟨⟨dx3, n3, wl3, c3, by rw [upd_ne eaL]; exact z1, ?_⟩, L2t.ok⟩
      rw [upd_ne]
      · exact z2
      · intro z
        rw [z, hLt] at z2
        have e : ls = ws.map V.str := HO.lst.inj (Option.some.inj z2)
        cases ws with
        | nil => exact absurd k1 (Nat.not_lt_zero _)
        | cons w wr =>
          rw [e] at hsp
          cases hsp with
          | cons y _ =>
            obtain ⟨_, y1, _⟩ := y
            cases y1
    · exact SameX.new hLn (((hsx.trans s1).trans s2).trans (SameX.of (same_new ht _)))
/-- the names of a sort's things -/
def NamesAt (K : PySem.W.Frag) (H : Hp) (th : Addr) (i : Nat) (ns : List Str) : Prop := ∃ (ls : List Addr) (l : Addr) (xs : List V), SqT K H th (ls.map V.ref) ∧ ls[i]? = some l ∧ SqL K H l xs ∧ Paired (Named K H) xs ns ∧ ns.length ≤ 100
theorem NamesAt.same {K : PySem.W.Frag} {H H' : Hp} {th : Addr} {i : Nat} {ns : List Str} (h : NamesAt K H th i ns) (s : Same H H') : NamesAt K H' th i ns := by
  obtain ⟨ls, l, xs, h1, h2, h3, h4, h5⟩ := h
  exact ⟨ls, l, xs, Same.tup s h1, h2, s.seq h3, Paired.mapP h4 fun _ _ z => z.same s, h5⟩
/-- a line is none of the named objects: it has no name -/
theorem SameX.named {K : PySem.W.Frag} {H H' : Hp} {a C dx : Addr} {fs : List (Str × V)} {x : V} {nm : Str} (s : SameX a H H') (ha : H a = some (.ins C dx fs)) (hn : fs.lookup ("name" : Str) = none) (h : Named K H x nm) : Named K H' x nm := by
  obtain ⟨b, D, dy, gs, h1, h2, h3, h4, h5⟩ := h
  refine ⟨b, D, dy, gs, h1, s _ _ (fun z => ?_) h2, h3, h4, h5⟩
  rw [z, ha] at h2
  injection h2 with h2
  injection h2 with z1 z2 z3
  rw [← z3, hn] at h5
  cases h5
theorem NamesAt.sameX {K : PySem.W.Frag} {CL : Addr} {H H' : Hp} {a : Addr} {ws : List Str} {r : Nat} {th : Addr} {i : Nat} {ns : List Str} (h : NamesAt K H th i ns) (hL : LnAt CL H a ws r) (s : SameX a H H') : NamesAt K H' th i ns := by
  obtain ⟨ls, l, xs, h1, h2, h3, h4, h5⟩ := h
  obtain ⟨dx, n, wl, c, g1, g2⟩ := hL.ex
  exact ⟨ls, l, xs, s.sqT g1 h1, h2, s.sqL g1 h3, Paired.mapP h4 fun _ _ z => s.named g1 (lnF_no (by decide +kernel) (by decide +kernel) (by decide +kernel) (by decide +kernel)) z, h5⟩
theorem le_min2 {n i j : Int} (h1 : n ≤ i) (h2 : n ≤ j) : n ≤ (if j < i then j else i) := by split <;> assumption
theorem LnAt.no {C : Addr} {H : Hp} {a : Addr} {ws : List Str} {r : Nat} (h : LnAt C H a ws r) {m : Str} (z1 : (m == ("number" : Str)) = false) (z2 : (m == ("words" : Str)) = false) (z3 : (m == ("read" : Str)) = false) (z4 : (m == ("column" : Str)) = false) :
    ∃ dx fs, H a = some (.ins C dx fs) ∧ fs.lookup m = none := by
  obtain ⟨dx, n, wl, c, h1, h2⟩ := h.ex
  exact ⟨dx, _, h1, lnF_no z1 z2 z3 z4⟩
theorem SameX.free {a x : Addr} {H H' : Hp} {o : HO} (s : SameX a H H') (ha : H' a = some o) (h : H' x = none) : H x = none := by
  cases q : H x with
  | none => rfl
  | some u =>
    by_cases e : x = a
    · rw [e, ha] at h; cases h
    · rw [s x u e q] at h; cases h
theorem LnAt.there {C : Addr} {H : Hp} {a : Addr} {ws : List Str} {r : Nat} (h : LnAt C H a ws r) : ∃ o, H a = some o := by
  obtain ⟨dx, n, wl, c, h1, h2⟩ := h.ex
  exact ⟨_, h1⟩
theorem same_made {H : Hp} {x dx : Addr} {o u v : HO} (hx : H x = none) (hd : H dx = none) : Same H (upd (upd (upd H dx o) x u) x v) := fun b z e => by
  have n1 : b ≠ x := ne_of_none e hx
  rw [upd_ne n1, upd_ne n1, upd_ne (ne_of_none e hd)]
  exact e
def spRdSat (K : PySem.W.Frag) (CL CS : Addr) : Sp := fun vs H Q _ => ∃ (a : Addr) (h : Int) (th : Addr) (s : SatD) (ns : List Str), vs = [.ref a, .int h, .ref th] ∧ LnAt CL H a (wSat s) 1 ∧ NamesAt K H th 0 ns ∧ s.name ∉ ns ∧ SatOk h s ∧ 1 ≤ h ∧ h ≤ 500 ∧
  ∀ b H', H b = none → SameX a H H' → LnAt CL H' a (wSat s) (wSat s).length → SatAt K CS H' (.ref b) s → Q (.ref b) H'
theorem d_read_satellite (T : TxtW K mg CL CS CT CR CP CW aS aR fS fT fR fP) (D_names_of : DefOk P w K mg base CX0 1 "names_of" ["things"] (spNames K)) (D_Line_read_new_name : MDef P w K mg base CX0 4 CL "read_new_name" ["self", "used"] [] (spNewName K CL))
    (D_Line_read_field : MDef P w K mg base CX0 4 CL "read_field" ["self", "word", "least", "most"] [] (spField CL)) (D_Line_read_choice : MDef P w K mg base CX0 3 CL "read_choice" ["self", "choices"] [] (spChoice K CL))
    (D_read_light : DefOk P w K mg base CX0 4 "read_light" ["line", "horizon"] (spLight K CL)) (DI_Satellite : MDef P w K mg base CX0 1 CS "__init__" ["self", "name", "store", "battery", "start_level", "reserve", "charge", "settle", "light"] [] (spI_Satellite CS))
    (A : At K mg "read_satellite" s_read_satellite ["line", "horizon", "things"]) : DefOk P w K mg base CX0 5 "read_satellite" ["line", "horizon", "things"] (spRdSat K CL CS) := by
  have B := T.L.B
  refine A.ok sc_read_satellite (fun vs H Q E h => ?_) (fun f cdv A outer s H vs Q E hr h => ?_)
  · obtain ⟨a, h, th, s, ns, rfl, _⟩ := h
    rfl
  obtain ⟨a, h, th, sd, ns, rfl, hL, hN, hno, ok, hh, hh5, q⟩ := h
  refine ⟨_, pss_cons (ps_set (i := 3) sc_read_satellite.nd rfl (Or.inl rfl) (pe_m D_Line_read_new_name T.c_Line.cl (hr.mono (by omega)) pass0 (pv 0) (pa_cons (pe_f D_names_of (hr.mono (by omega)) pass0 (pa_cons (pe_ix ix_tup (pv 2) (pe_gi T.g_SATELLITES) (fun _ _ => rfl)) pa_nil)) pa_nil)))
  (pss_cons (ps_set (i := 4) sc_read_satellite.nd rfl (Or.inl rfl) (pe_m D_Line_read_field T.c_Line.cl (hr.mono (by omega)) pass0 (pv 0) (pa_cons pe_str (pa_cons pe_int (pa_cons (pe_gi T.g_MOST_UNITS) pa_nil)))))
  (pss_cons (ps_set (i := 5) sc_read_satellite.nd rfl (Or.inl rfl) (pe_m D_Line_read_field T.c_Line.cl (hr.mono (by omega)) pass0 (pv 0) (pa_cons pe_str (pa_cons pe_int (pa_cons (pe_gi T.g_MOST_UNITS) pa_nil)))))
  (C8.pss_cut (ps_set (i := 6) sc_read_satellite.nd rfl (Or.inl rfl) (pe_m D_Line_read_field T.c_Line.cl (hr.mono (by omega)) pass0 (pv 0) (pa_cons pe_str (pa_cons pe_int (pa_cons (pv 5) pa_nil)))))
  (pss_cons (ps_set (i := 7) sc_read_satellite.nd rfl (Or.inl rfl) (pe_m D_Line_read_field T.c_Line.cl (hr.mono (by omega)) pass0 (pv 0) (pa_cons pe_str (pa_cons pe_int (pa_cons (pv 6) pa_nil)))))
  (pss_cons (ps_set (i := 8) sc_read_satellite.nd rfl (Or.inl rfl) (pe_m D_Line_read_field T.c_Line.cl (hr.mono (by omega)) pass0 (pv 0) (pa_cons pe_str (pa_cons pe_int (pa_cons (pe_gi T.g_MOST_CHARGE) pa_nil)))))
  (pss_cons (ps_set (i := 9) sc_read_satellite.nd rfl (Or.inl rfl) (pe_m D_Line_read_field T.c_Line.cl (hr.mono (by omega)) pass0 (pv 0) (pa_cons pe_str (pa_cons pe_int (pa_cons (pe_gi T.g_MOST_DELAY) pa_nil)))))
  (pss_cons (ps_expr (pe_m D_Line_read_choice T.c_Line.cl (hr.mono (by omega)) pass0 (pv 0) (pa_cons (pe_tup (pa_cons pe_str pa_nil)) pa_nil)))
  (pss_cons (ps_set (i := 10) sc_read_satellite.nd rfl (Or.inl rfl) (pe_f D_read_light (hr.mono (by omega)) pass0 (pa_cons (pv 0) (pa_cons (pv 1) pa_nil))))
  (pss_one (ps_ret (pe_mk DI_Satellite T.c_Satellite (hr.mono (by omega)) pass0 (pa_cons (pv 3) (pa_cons (pv 4) (pa_cons (pv 5) (pa_cons (pv 6) (pa_cons (pv 7) (pa_cons (pv 8) (pa_cons (pv 9) (pa_cons (pv 10) pa_nil)))))))))))))))))))
    , ?_⟩
  have b1 := ok.store; have b2 := ok.battery; have b3 := ok.level; have b4 := ok.reserve; have b5 := ok.charge; have b6 := ok.settle
  obtain ⟨ls, l, xs, t1, t2, t3, t4, t5⟩ := hN
  obtain ⟨_, _, g0, z0⟩ := LnAt.no hL (m := "read_new_name") (by decide +kernel) (by decide +kernel) (by decide +kernel) (by decide +kernel)
  refine ⟨_, rfl, a, _, _, rfl, g0, z0, _, rfl, th, _, _, .ref l, rfl, rfl, t1, atI_nat (j := 0) (by rw [List.getElem?_map, t2]; rfl), l, xs, ns, rfl, t3, t4, t5, fun p H1 s1 np hp => ?_⟩
  refine ⟨a, _, 1, p, ns, sd.name, rfl, hL.same s1, SqL.of hp, rfl, ok.name, hno, fun H2 s2 L2 => ?_⟩
  (obtain ⟨_, _, g2, z2⟩ := LnAt.no L2 (m := "read_field") (by decide +kernel) (by decide +kernel) (by decide +kernel) (by decide +kernel); refine ⟨_, rfl, a, _, _, rfl, g2, z2, a, _, 2, _, _, _, sd.store, rfl, L2, rfl, rfl, by omega, by omega, by omega, by omega, fun H3 s3 L3 => ?_⟩)
  (obtain ⟨_, _, g3, z3⟩ := LnAt.no L3 (m := "read_field") (by decide +kernel) (by decide +kernel) (by decide +kernel) (by decide +kernel); refine ⟨_, rfl, a, _, _, rfl, g3, z3, a, _, 4, _, _, _, sd.battery, rfl, L3, rfl, rfl, by omega, by omega, by omega, by omega, fun H4 s4 L4 => ?_⟩)
  refine ⟨fun σ' H' => σ' = [some (.ref a), some (.int h), some (.ref th), some (.str sd.name), some (.int sd.store), some (.int sd.battery), some (.int sd.level), none, none, none, none] ∧ SameX a H H' ∧ LnAt CL H' a (wSat sd) 8, ?_, fun σ' H5 hm => ?_⟩
  · (obtain ⟨_, _, g4, z4⟩ := LnAt.no L4 (m := "read_field") (by decide +kernel) (by decide +kernel) (by decide +kernel) (by decide +kernel); refine ⟨_, rfl, a, _, _, rfl, g4, z4, _, rfl, a, _, 6, _, _, _, sd.level, rfl, L4, rfl, rfl, by omega, by omega, by omega, by omega, fun H5 s5 L5 => ?_⟩)
    exact ⟨rfl, ((((SameX.of s1).trans s2).trans s3).trans s4).trans s5, L5⟩
  obtain ⟨rfl, s05, L5⟩ := hm
  (obtain ⟨_, _, g5, z5⟩ := LnAt.no L5 (m := "read_field") (by decide +kernel) (by decide +kernel) (by decide +kernel) (by decide +kernel); refine ⟨_, rfl, a, _, _, rfl, g5, z5, _, rfl, a, _, 8, _, _, _, sd.reserve, rfl, L5, rfl, rfl, by omega, by omega, by omega, by omega, fun H6 s6 L6 => ?_⟩)
  (obtain ⟨_, _, g6, z6⟩ := LnAt.no L6 (m := "read_field") (by decide +kernel) (by decide +kernel) (by decide +kernel) (by decide +kernel); refine ⟨_, rfl, a, _, _, rfl, g6, z6, a, _, 10, _, _, _, sd.charge, rfl, L6, rfl, rfl, by omega, by omega, by omega, by omega, fun H7 s7 L7 => ?_⟩)
  (obtain ⟨_, _, g7, z7⟩ := LnAt.no L7 (m := "read_field") (by decide +kernel) (by decide +kernel) (by decide +kernel) (by decide +kernel); refine ⟨_, rfl, a, _, _, rfl, g7, z7, a, _, 12, _, _, _, sd.settle, rfl, L7, rfl, rfl, by omega, by omega, by omega, by omega, fun H8 s8 L8 => ?_⟩)
  obtain ⟨_, _, g8, z8⟩ := LnAt.no L8 (m := "read_choice") (by decide +kernel) (by decide +kernel) (by decide +kernel) (by decide +kernel)
  refine ⟨_, rfl, a, _, _, rfl, g8, z8, (by show 1 ≤ sizeLine; decide), fun t ht => ?_⟩
  refine ⟨a, _, 14, t, [Str.ofString "light"], Str.ofString "light", rfl, L8.same (same_new ht _), SqT.of upd_same, rfl, List.mem_cons_self, fun H9 s9 L9 => ?_⟩
  refine ⟨_, rfl, _, rfl, a, _, 15, h, sd.light, rfl, L9, by unfold wSat; rw [List.length_append]; exact Nat.le_add_right 15 _, rfl, ok.light, hh5, by omega, fun t ls' H10 s10 L10 htt hsp => ?_⟩
  refine ⟨_, rfl, _, rfl, _, rfl, _, rfl, _, rfl, _, rfl, _, rfl, _, rfl, fun x dx hx hdx ne => ?_⟩
  refine ⟨x, dx, _, _, _, _, _, _, _, _, rfl, upd_same, rfl, ?_⟩
  have sA : SameX a H H10 := ((((s05.trans s6).trans s7).trans s8).trans (SameX.of (same_new ht _))).trans (s9.trans s10)
  have sB := same_made (o := .own x) (u := .ins CS dx []) (v := .ins CS dx (satF sd t)) hx hdx
  obtain ⟨o, ho⟩ := L10.there
  refine q x _ (sA.free ho hx) (sA.trans (SameX.of sB)) (L10.same sB) ⟨x, dx, t, ls', rfl, upd_same, SqT.of (sB _ _ htt), hsp.same sB⟩
def spRdSta (K : PySem.W.Frag) (CL CT : Addr) : Sp := fun vs H Q _ => ∃ (a : Addr) (h : Int) (th : Addr) (s : StaD) (ns : List Str), vs = [.ref a, .int h, .ref th] ∧ LnAt CL H a (wSta s) 1 ∧ NamesAt K H th 1 ns ∧ s.name ∉ ns ∧ StaOk s ∧
  ∀ b H', H b = none → SameX a H H' → LnAt CL H' a (wSta s) (wSta s).length → StaAt CT H' (.ref b) s → Q (.ref b) H'
theorem d_read_station (T : TxtW K mg CL CS CT CR CP CW aS aR fS fT fR fP) (D_names_of : DefOk P w K mg base CX0 1 "names_of" ["things"] (spNames K)) (D_Line_read_new_name : MDef P w K mg base CX0 4 CL "read_new_name" ["self", "used"] [] (spNewName K CL))
    (D_Line_read_field : MDef P w K mg base CX0 4 CL "read_field" ["self", "word", "least", "most"] [] (spField CL)) (DI_Station : MDef P w K mg base CX0 1 CT "__init__" ["self", "name", "antennas", "turn"] [] (spI_Station CT))
    (A : At K mg "read_station" s_read_station ["line", "_", "things"]) : DefOk P w K mg base CX0 5 "read_station" ["line", "_", "things"] (spRdSta K CL CT) := by
  have B := T.L.B
  refine A.ok sc_read_station (fun vs H Q E h => ?_) (fun f cdv A outer s H vs Q E hr h => ?_)
  · obtain ⟨a, h, th, s, ns, rfl, _⟩ := h
    rfl
  obtain ⟨a, h, th, sd, ns, rfl, hL, hN, hno, ok, q⟩ := h
  refine ⟨_, pss_cons (ps_set (i := 3) sc_read_station.nd rfl (Or.inl rfl) (pe_m D_Line_read_new_name T.c_Line.cl (hr.mono (by omega)) pass0 (pv 0) (pa_cons (pe_f D_names_of (hr.mono (by omega)) pass0 (pa_cons (pe_ix ix_tup (pv 2) (pe_gi T.g_STATIONS) (fun _ _ => rfl)) pa_nil)) pa_nil)))
  (pss_cons (ps_set (i := 4) sc_read_station.nd rfl (Or.inl rfl) (pe_m D_Line_read_field T.c_Line.cl (hr.mono (by omega)) pass0 (pv 0) (pa_cons pe_str (pa_cons pe_int (pa_cons (pe_gi T.g_MOST_ANTENNAS) pa_nil)))))
  (pss_cons (ps_set (i := 5) sc_read_station.nd rfl (Or.inl rfl) (pe_m D_Line_read_field T.c_Line.cl (hr.mono (by omega)) pass0 (pv 0) (pa_cons pe_str (pa_cons pe_int (pa_cons (pe_gi T.g_MOST_DELAY) pa_nil)))))
  (pss_one (ps_ret (pe_mk DI_Station T.c_Station (hr.mono (by omega)) pass0 (pa_cons (pv 3) (pa_cons (pv 4) (pa_cons (pv 5) pa_nil))))))))
    , ?_⟩
  have b1 := ok.antennas; have b2 := ok.turn
  obtain ⟨ls, l, xs, t1, t2, t3, t4, t5⟩ := hN
  obtain ⟨_, _, g0, z0⟩ := LnAt.no hL (m := "read_new_name") (by decide +kernel) (by decide +kernel) (by decide +kernel) (by decide +kernel)
  refine ⟨_, rfl, a, _, _, rfl, g0, z0, _, rfl, th, _, _, .ref l, rfl, rfl, t1, atI_nat (j := 1) (by rw [List.getElem?_map, t2]; rfl), l, xs, ns, rfl, t3, t4, t5, fun p H1 s1 np hp => ?_⟩
  refine ⟨a, _, 1, p, ns, sd.name, rfl, hL.same s1, SqL.of hp, rfl, ok.name, hno, fun H2 s2 L2 => ?_⟩
  (obtain ⟨_, _, g2, z2⟩ := LnAt.no L2 (m := "read_field") (by decide +kernel) (by decide +kernel) (by decide +kernel) (by decide +kernel); refine ⟨_, rfl, a, _, _, rfl, g2, z2, a, _, 2, _, _, _, sd.antennas, rfl, L2, rfl, rfl, by omega, by omega, by omega, by omega, fun H3 s3 L3 => ?_⟩)
  (obtain ⟨_, _, g3, z3⟩ := LnAt.no L3 (m := "read_field") (by decide +kernel) (by decide +kernel) (by decide +kernel) (by decide +kernel); refine ⟨_, rfl, a, _, _, rfl, g3, z3, a, _, 4, _, _, _, sd.turn, rfl, L3, rfl, rfl, by omega, by omega, by omega, by omega, fun H10 s4 L10 => ?_⟩)
  refine ⟨_, rfl, _, rfl, _, rfl, fun x dx hx hdx ne => ?_⟩
  refine ⟨x, dx, _, _, _, rfl, upd_same, rfl, ?_⟩
  have sA : SameX a H H10 := (((SameX.of s1).trans s2).trans s3).trans s4
  have sB := same_made (o := .own x) (u := .ins CT dx []) (v := .ins CT dx (staF sd)) hx hdx
  obtain ⟨o, ho⟩ := L10.there
  exact q x _ (sA.free ho hx) (sA.trans (SameX.of sB)) (L10.same sB) ⟨x, dx, rfl, upd_same⟩
def spRdRec (K : PySem.W.Frag) (CL CR : Addr) : Sp := fun vs H Q _ => ∃ (a : Addr) (th : Addr) (W : WorldD) (s : RecD) (ns : List Str), vs = [.ref a, .int W.horizon, .ref th] ∧ LnAt CL H a (wRec W s) 1 ∧ NamesAt K H th 2 ns ∧ NamesAt K H th 0 (W.sats.map (·.name)) ∧ s.name ∉ ns ∧ WorldOk W ∧ RecOk W s ∧
  ∀ b H', H b = none → SameX a H H' → LnAt CL H' a (wRec W s) (wRec W s).length → RecAt CR H' (.ref b) s → Q (.ref b) H'
theorem d_read_recording (T : TxtW K mg CL CS CT CR CP CW aS aR fS fT fR fP) (D_names_of : DefOk P w K mg base CX0 1 "names_of" ["things"] (spNames K)) (D_Line_read_new_name : MDef P w K mg base CX0 4 CL "read_new_name" ["self", "used"] [] (spNewName K CL))
    (D_Line_read_field : MDef P w K mg base CX0 4 CL "read_field" ["self", "word", "least", "most"] [] (spField CL)) (D_Line_read_choice : MDef P w K mg base CX0 3 CL "read_choice" ["self", "choices"] [] (spChoice K CL))
    (D_Line_read_known_name : MDef P w K mg base CX0 4 CL "read_known_name" ["self", "names", "least"] [.int 0] (spKnownName K CL))
    (DI_Recording : MDef P w K mg base CX0 1 CR "__init__" ["self", "name", "satellite", "earliest", "latest", "length", "size", "energy", "worth", "rank", "deadline"] [] (spI_Recording CR))
    (A : At K mg "read_recording" s_read_recording ["line", "horizon", "things"]) : DefOk P w K mg base CX0 5 "read_recording" ["line", "horizon", "things"] (spRdRec K CL CR) := by
  have B := T.L.B
  refine A.ok sc_read_recording (fun vs H Q E h => ?_) (fun f cdv A outer s H vs Q E hr h => ?_)
  · obtain ⟨a, th, W, s, ns, rfl, _⟩ := h
    rfl
  obtain ⟨a, th, W, sd, ns, rfl, hL, hN, hS, hno, wok, ok, q⟩ := h
  refine ⟨_, pss_cons (ps_set (i := 3) sc_read_recording.nd rfl (Or.inl rfl) (pe_m D_Line_read_new_name T.c_Line.cl (hr.mono (by omega)) pass0 (pv 0) (pa_cons (pe_f D_names_of (hr.mono (by omega)) pass0 (pa_cons (pe_ix ix_tup (pv 2) (pe_gi T.g_RECORDINGS) (fun _ _ => rfl)) pa_nil)) pa_nil)))
  (pss_cons (ps_expr (pe_m D_Line_read_choice T.c_Line.cl (hr.mono (by omega)) pass0 (pv 0) (pa_cons (pe_tup (pa_cons pe_str pa_nil)) pa_nil)))
  (C8.pss_cut (ps_set (i := 4) sc_read_recording.nd rfl (Or.inl rfl) (pe_m D_Line_read_known_name T.c_Line.cl (hr.mono (by omega)) pass0 (pv 0) (pa_cons (pe_f D_names_of (hr.mono (by omega)) pass0 (pa_cons (pe_ix ix_tup (pv 2) (pe_gi T.g_SATELLITES) (fun _ _ => rfl)) pa_nil)) pa_nil)))
  (pss_cons (ps_set (i := 5) sc_read_recording.nd rfl (Or.inl rfl) (pe_m D_Line_read_field T.c_Line.cl (hr.mono (by omega)) pass0 (pv 0) (pa_cons pe_str (pa_cons pe_int (pa_cons (pe_op op_sub (pv 1) pe_int) pa_nil)))))
  (pss_cons (ps_set (i := 6) sc_read_recording.nd rfl (Or.inl rfl) (pe_m D_Line_read_field T.c_Line.cl (hr.mono (by omega)) pass0 (pv 0) (pa_cons pe_str (pa_cons (pv 5) (pa_cons (pe_callB (call_min2 rfl) (by rfl) B.min (by decide +kernel) (pa_cons (pe_op op_add (pv 5) (ClX.pe_cval (pe_ga T.c_World.gC) rfl)) (pa_cons (pe_op op_sub (pv 1) pe_int) pa_nil))) pa_nil)))))
  (pss_cons (ps_set (i := 7) sc_read_recording.nd rfl (Or.inl rfl) (pe_m D_Line_read_field T.c_Line.cl (hr.mono (by omega)) pass0 (pv 0) (pa_cons pe_str (pa_cons pe_int (pa_cons (pe_op op_sub (pv 1) (pv 6)) pa_nil)))))
  (pss_cons (ps_set (i := 8) sc_read_recording.nd rfl (Or.inl rfl) (pe_m D_Line_read_field T.c_Line.cl (hr.mono (by omega)) pass0 (pv 0) (pa_cons pe_str (pa_cons pe_int (pa_cons (pe_gi T.g_MOST_UNITS) pa_nil)))))
  (pss_cons (ps_set (i := 9) sc_read_recording.nd rfl (Or.inl rfl) (pe_m D_Line_read_field T.c_Line.cl (hr.mono (by omega)) pass0 (pv 0) (pa_cons pe_str (pa_cons pe_int (pa_cons (pe_gi T.g_MOST_UNITS) pa_nil)))))
  (pss_cons (ps_set (i := 10) sc_read_recording.nd rfl (Or.inl rfl) (pe_m D_Line_read_field T.c_Line.cl (hr.mono (by omega)) pass0 (pv 0) (pa_cons pe_str (pa_cons pe_int (pa_cons (pe_gi T.g_MOST_WORTH) pa_nil)))))
  (pss_cons (ps_set (i := 11) sc_read_recording.nd rfl (Or.inl rfl) (pe_m D_Line_read_field T.c_Line.cl (hr.mono (by omega)) pass0 (pv 0) (pa_cons pe_str (pa_cons pe_int (pa_cons (pe_gi T.g_MOST_RANK) pa_nil)))))
  (pss_cons (ps_set (i := 12) sc_read_recording.nd rfl (Or.inl rfl) (pe_m D_Line_read_field T.c_Line.cl (hr.mono (by omega)) pass0 (pv 0) (pa_cons pe_str (pa_cons pe_int (pa_cons (pv 1) pa_nil)))))
  (pss_one (ps_ret (pe_mk DI_Recording T.c_Recording (hr.mono (by omega)) pass0 (pa_cons (pv 3) (pa_cons (pv 4) (pa_cons (pv 5) (pa_cons (pv 6) (pa_cons (pv 7) (pa_cons (pv 8) (pa_cons (pv 9) (pa_cons (pv 10) (pa_cons (pv 11) (pa_cons (pv 12) pa_nil)))))))))))))))))))))))
    , ?_⟩
  have b0 := wok.horizon; have b1 := ok.earliest; have b2 := ok.latest; have b3 := ok.length; have b4 := ok.size; have b5 := ok.energy; have b6 := ok.worth; have b7 := ok.rank; have b8 := ok.deadline
  obtain ⟨ls, l, xs, t1, t2, t3, t4, t5⟩ := hN
  obtain ⟨_, _, g0, z0⟩ := LnAt.no hL (m := "read_new_name") (by decide +kernel) (by decide +kernel) (by decide +kernel) (by decide +kernel)
  refine ⟨_, rfl, a, _, _, rfl, g0, z0, _, rfl, th, _, _, .ref l, rfl, rfl, t1, atI_nat (j := 2) (by rw [List.getElem?_map, t2]; rfl), l, xs, ns, rfl, t3, t4, t5, fun p H1 s1 np hp => ?_⟩
  refine ⟨a, _, 1, p, ns, sd.name, rfl, hL.same s1, SqL.of hp, rfl, ok.name, hno, fun H2 s2 L2 => ?_⟩
  obtain ⟨_, _, g2, z2⟩ := LnAt.no L2 (m := "read_choice") (by decide +kernel) (by decide +kernel) (by decide +kernel) (by decide +kernel)
  refine ⟨_, rfl, a, _, _, rfl, g2, z2, (by show 1 ≤ sizeLine; decide), fun t ht => ?_⟩
  refine ⟨a, _, 2, t, [Str.ofString "by"], Str.ofString "by", rfl, L2.same (same_new ht _), SqT.of upd_same, rfl, List.mem_cons_self, fun H3 s3 L3 => ?_⟩
  have s03 : SameX a H H3 := (((SameX.of s1).trans s2).trans (SameX.of (same_new ht _))).trans s3
  refine ⟨fun σ' H' => σ' = [some (.ref a), some (.int W.horizon), some (.ref th), some (.str sd.name), some (.int (sd.sat : Int)), none, none, none, none, none, none, none, none] ∧ SameX a H H' ∧ LnAt CL H' a (wRec W sd) 4, ?_, fun σ' H5 h => ?_⟩
  · obtain ⟨ls', l', xs', u1, u2, u3, u4, u5⟩ := hS.sameX hL s03
    obtain ⟨_, _, g3, z3⟩ := LnAt.no L3 (m := "read_known_name") (by decide +kernel) (by decide +kernel) (by decide +kernel) (by decide +kernel)
    refine ⟨_, rfl, a, _, _, rfl, g3, z3, _, rfl, th, _, _, .ref l', rfl, rfl, u1, atI_nat (j := 0) (by rw [List.getElem?_map, u2]; rfl), l', xs', _, rfl, u3, u4, u5, fun p2 H4 s4 np2 hp2 => ?_⟩
    refine ⟨a, _, 3, p2, _, satN W sd.sat, sd.sat, 0, rfl, L3.same s4, SqL.of hp2, rfl, satN_ok wok ok.sat, satN_at ok.sat, wok.dSats, by omega, fun H5 s5 L5 => ?_⟩
    exact ⟨rfl, (s03.trans (SameX.of s4)).trans s5, L5⟩
  obtain ⟨rfl, s05, L5⟩ := h
  (obtain ⟨_, _, g5, z5⟩ := LnAt.no L5 (m := "read_field") (by decide +kernel) (by decide +kernel) (by decide +kernel) (by decide +kernel); refine ⟨_, rfl, a, _, _, rfl, g5, z5, _, rfl, _, _, rfl, rfl, a, _, 4, _, _, _, sd.earliest, rfl, L5, rfl, rfl, by omega, by omega, by omega, by omega, fun H6 s6 L6 => ?_⟩)
  obtain ⟨tk, hv⟩ := T.v_MOST_SHIFT
  (obtain ⟨_, _, g6, z6⟩ := LnAt.no L6 (m := "read_field") (by decide +kernel) (by decide +kernel) (by decide +kernel) (by decide +kernel); refine ⟨_, rfl, a, _, _, rfl, g6, z6, _, rfl, _, rfl, CW, _, _, _, rfl, T.rdW, hv, _, _, rfl, rfl, _, rfl, _, _, rfl, rfl, _, _, rfl, a, _, 6, _, _, _, sd.latest, rfl, L6, rfl, rfl, by omega, by omega, by omega, le_min2 (by omega) (by omega), fun H7 s7 L7 => ?_⟩)
  (obtain ⟨_, _, g7, z7⟩ := LnAt.no L7 (m := "read_field") (by decide +kernel) (by decide +kernel) (by decide +kernel) (by decide +kernel); refine ⟨_, rfl, a, _, _, rfl, g7, z7, _, rfl, _, rfl, _, _, rfl, rfl, a, _, 8, _, _, _, sd.length, rfl, L7, rfl, rfl, by omega, by omega, by omega, by omega, fun H8 s8 L8 => ?_⟩)
  (obtain ⟨_, _, g8, z8⟩ := LnAt.no L8 (m := "read_field") (by decide +kernel) (by decide +kernel) (by decide +kernel) (by decide +kernel); refine ⟨_, rfl, a, _, _, rfl, g8, z8, a, _, 10, _, _, _, sd.size, rfl, L8, rfl, rfl, by omega, by omega, by omega, by omega, fun H9 s9 L9 => ?_⟩)
  (obtain ⟨_, _, g9, z9⟩ := LnAt.no L9 (m := "read_field") (by decide +kernel) (by decide +kernel) (by decide +kernel) (by decide +kernel); refine ⟨_, rfl, a, _, _, rfl, g9, z9, a, _, 12, _, _, _, sd.energy, rfl, L9, rfl, rfl, by omega, by omega, by omega, by omega, fun H10 s10 L10 => ?_⟩)
  (obtain ⟨_, _, g10, z10⟩ := LnAt.no L10 (m := "read_field") (by decide +kernel) (by decide +kernel) (by decide +kernel) (by decide +kernel); refine ⟨_, rfl, a, _, _, rfl, g10, z10, a, _, 14, _, _, _, sd.worth, rfl, L10, rfl, rfl, by omega, by omega, by omega, by omega, fun H11 s11 L11 => ?_⟩)
  (obtain ⟨_, _, g11, z11⟩ := LnAt.no L11 (m := "read_field") (by decide +kernel) (by decide +kernel) (by decide +kernel) (by decide +kernel); refine ⟨_, rfl, a, _, _, rfl, g11, z11, a, _, 16, _, _, _, sd.rank, rfl, L11, rfl, rfl, by omega, by omega, by omega, by omega, fun H12 s12 L12 => ?_⟩)
  (obtain ⟨_, _, g12, z12⟩ := LnAt.no L12 (m := "read_field") (by decide +kernel) (by decide +kernel) (by decide +kernel) (by decide +kernel); refine ⟨_, rfl, a, _, _, rfl, g12, z12, _, rfl, a, _, 18, _, _, _, sd.deadline, rfl, L12, rfl, rfl, by omega, by omega, by omega, by omega, fun H13 s13 L13 => ?_⟩)
  refine ⟨_, rfl, _, rfl, _, rfl, _, rfl, _, rfl, _, rfl, _, rfl, _, rfl, _, rfl, _, rfl, fun x dx hx hdx ne => ?_⟩
  refine ⟨x, dx, _, _, _, _, _, _, _, _, _, _, rfl, upd_same, rfl, ?_⟩
  have sA : SameX a H H13 := (((((((s05.trans s6).trans s7).trans s8).trans s9).trans s10).trans s11).trans s12).trans s13
  have sB := same_made (o := .own x) (u := .ins CR dx []) (v := .ins CR dx (recF sd)) hx hdx
  obtain ⟨o, ho⟩ := L13.there
  exact q x _ (sA.free ho hx) (sA.trans (SameX.of sB)) (L13.same sB) ⟨x, dx, rfl, upd_same⟩
def spRdPas (K : PySem.W.Frag) (CL CP : Addr) : Sp := fun vs H Q _ => ∃ (a : Addr) (th : Addr) (W : WorldD) (s : PasD) (ns : List Str), vs = [.ref a, .int W.horizon, .ref th] ∧ LnAt CL H a (wPas W s) 1 ∧ NamesAt K H th 3 ns ∧ NamesAt K H th 0 (W.sats.map (·.name)) ∧ NamesAt K H th 1 (W.stas.map (·.name)) ∧ s.name ∉ ns ∧ WorldOk W ∧ PasOk W s ∧
  ∀ b H', H b = none → SameX a H H' → LnAt CL H' a (wPas W s) (wPas W s).length → PasAt K CP H' (.ref b) s → Q (.ref b) H'
theorem d_read_pass (T : TxtW K mg CL CS CT CR CP CW aS aR fS fT fR fP) (D_names_of : DefOk P w K mg base CX0 1 "names_of" ["things"] (spNames K)) (D_Line_read_new_name : MDef P w K mg base CX0 4 CL "read_new_name" ["self", "used"] [] (spNewName K CL))
    (D_Line_read_field : MDef P w K mg base CX0 4 CL "read_field" ["self", "word", "least", "most"] [] (spField CL)) (D_Line_read_choice : MDef P w K mg base CX0 3 CL "read_choice" ["self", "choices"] [] (spChoice K CL))
    (D_Line_read_known_name : MDef P w K mg base CX0 4 CL "read_known_name" ["self", "names", "least"] [.int 0] (spKnownName K CL))
    (DI_Pass : MDef P w K mg base CX0 1 CP "__init__" ["self", "name", "satellite", "station", "span", "room", "energy", "fee"] [] (spI_Pass CP))
    (A : At K mg "read_pass" s_read_pass ["line", "horizon", "things"]) : DefOk P w K mg base CX0 5 "read_pass" ["line", "horizon", "things"] (spRdPas K CL CP) := by
  have B := T.L.B
  refine A.ok sc_read_pass (fun vs H Q E h => ?_) (fun f cdv A outer s H vs Q E hr h => ?_)
  · obtain ⟨a, th, W, s, ns, rfl, _⟩ := h
    rfl
  obtain ⟨a, th, W, sd, ns, rfl, hL, hN, hS, hT, hno, wok, ok, q⟩ := h
  refine ⟨_, pss_cons (ps_set (i := 3) sc_read_pass.nd rfl (Or.inl rfl) (pe_m D_Line_read_new_name T.c_Line.cl (hr.mono (by omega)) pass0 (pv 0) (pa_cons (pe_f D_names_of (hr.mono (by omega)) pass0 (pa_cons (pe_ix ix_tup (pv 2) (pe_gi T.g_PASSES) (fun _ _ => rfl)) pa_nil)) pa_nil)))
  (pss_cons (ps_expr (pe_m D_Line_read_choice T.c_Line.cl (hr.mono (by omega)) pass0 (pv 0) (pa_cons (pe_tup (pa_cons pe_str pa_nil)) pa_nil)))
  (pss_cons (ps_set (i := 4) sc_read_pass.nd rfl (Or.inl rfl) (pe_m D_Line_read_known_name T.c_Line.cl (hr.mono (by omega)) pass0 (pv 0) (pa_cons (pe_f D_names_of (hr.mono (by omega)) pass0 (pa_cons (pe_ix ix_tup (pv 2) (pe_gi T.g_SATELLITES) (fun _ _ => rfl)) pa_nil)) pa_nil)))
  (pss_cons (ps_expr (pe_m D_Line_read_choice T.c_Line.cl (hr.mono (by omega)) pass0 (pv 0) (pa_cons (pe_tup (pa_cons pe_str pa_nil)) pa_nil)))
  (C8.pss_cut (ps_set (i := 5) sc_read_pass.nd rfl (Or.inl rfl) (pe_m D_Line_read_known_name T.c_Line.cl (hr.mono (by omega)) pass0 (pv 0) (pa_cons (pe_f D_names_of (hr.mono (by omega)) pass0 (pa_cons (pe_ix ix_tup (pv 2) (pe_gi T.g_STATIONS) (fun _ _ => rfl)) pa_nil)) pa_nil)))
  (pss_cons (ps_set (i := 6) sc_read_pass.nd rfl (Or.inl rfl) (pe_m D_Line_read_field T.c_Line.cl (hr.mono (by omega)) pass0 (pv 0) (pa_cons pe_str (pa_cons pe_int (pa_cons (pe_op op_sub (pv 1) pe_int) pa_nil)))))
  (pss_cons (ps_set (i := 7) sc_read_pass.nd rfl (Or.inl rfl) (pe_m D_Line_read_field T.c_Line.cl (hr.mono (by omega)) pass0 (pv 0) (pa_cons pe_str (pa_cons (pe_op op_add (pv 6) pe_int) (pa_cons (pv 1) pa_nil)))))
  (pss_cons (ps_set (i := 8) sc_read_pass.nd rfl (Or.inl rfl) (pe_m D_Line_read_field T.c_Line.cl (hr.mono (by omega)) pass0 (pv 0) (pa_cons pe_str (pa_cons pe_int (pa_cons (pe_gi T.g_MOST_UNITS) pa_nil)))))
  (pss_cons (ps_set (i := 9) sc_read_pass.nd rfl (Or.inl rfl) (pe_m D_Line_read_field T.c_Line.cl (hr.mono (by omega)) pass0 (pv 0) (pa_cons pe_str (pa_cons pe_int (pa_cons (pe_gi T.g_MOST_UNITS) pa_nil)))))
  (pss_cons (ps_set (i := 10) sc_read_pass.nd rfl (Or.inl rfl) (pe_m D_Line_read_field T.c_Line.cl (hr.mono (by omega)) pass0 (pv 0) (pa_cons pe_str (pa_cons pe_int (pa_cons (pe_gi T.g_MOST_FEE) pa_nil)))))
  (pss_one (ps_ret (pe_mk DI_Pass T.c_Pass (hr.mono (by omega)) pass0 (pa_cons (pv 3) (pa_cons (pv 4) (pa_cons (pv 5) (pa_cons (pe_tup (pa_cons (pv 6) (pa_cons (pv 7) pa_nil))) (pa_cons (pv 8) (pa_cons (pv 9) (pa_cons (pv 10) pa_nil)))))))))))))))))))
    , ?_⟩
  have b0 := wok.horizon; have b1 := ok.first; have b2 := ok.fin; have b3 := ok.room; have b4 := ok.energy; have b5 := ok.fee
  obtain ⟨ls, l, xs, t1, t2, t3, t4, t5⟩ := hN
  obtain ⟨_, _, g0, z0⟩ := LnAt.no hL (m := "read_new_name") (by decide +kernel) (by decide +kernel) (by decide +kernel) (by decide +kernel)
  refine ⟨_, rfl, a, _, _, rfl, g0, z0, _, rfl, th, _, _, .ref l, rfl, rfl, t1, atI_nat (j := 3) (by rw [List.getElem?_map, t2]; rfl), l, xs, ns, rfl, t3, t4, t5, fun p H1 s1 np hp => ?_⟩
  refine ⟨a, _, 1, p, ns, sd.name, rfl, hL.same s1, SqL.of hp, rfl, ok.name, hno, fun H2 s2 L2 => ?_⟩
  obtain ⟨_, _, g2, z2⟩ := LnAt.no L2 (m := "read_choice") (by decide +kernel) (by decide +kernel) (by decide +kernel) (by decide +kernel)
  refine ⟨_, rfl, a, _, _, rfl, g2, z2, (by show 1 ≤ sizeLine; decide), fun t ht => ?_⟩
  refine ⟨a, _, 2, t, [Str.ofString "by"], Str.ofString "by", rfl, L2.same (same_new ht _), SqT.of upd_same, rfl, List.mem_cons_self, fun H3 s3 L3 => ?_⟩
  have s03 : SameX a H H3 := (((SameX.of s1).trans s2).trans (SameX.of (same_new ht _))).trans s3
  obtain ⟨ls', l', xs', u1, u2, u3, u4, u5⟩ := hS.sameX hL s03
  obtain ⟨_, _, g3, z3⟩ := LnAt.no L3 (m := "read_known_name") (by decide +kernel) (by decide +kernel) (by decide +kernel) (by decide +kernel)
  refine ⟨_, rfl, a, _, _, rfl, g3, z3, _, rfl, th, _, _, .ref l', rfl, rfl, u1, atI_nat (j := 0) (by rw [List.getElem?_map, u2]; rfl), l', xs', _, rfl, u3, u4, u5, fun p2 H4 s4 np2 hp2 => ?_⟩
  refine ⟨a, _, 3, p2, _, satN W sd.sat, sd.sat, 0, rfl, L3.same s4, SqL.of hp2, rfl, satN_ok wok ok.sat, satN_at ok.sat, wok.dSats, by omega, fun H5 s5 L5 => ?_⟩
  obtain ⟨_, _, g5, z5⟩ := LnAt.no L5 (m := "read_choice") (by decide +kernel) (by decide +kernel) (by decide +kernel) (by decide +kernel)
  refine ⟨_, rfl, a, _, _, rfl, g5, z5, (by show 1 ≤ sizeLine; decide), fun t3 ht3 => ?_⟩
  refine ⟨a, _, 4, t3, [Str.ofString "over"], Str.ofString "over", rfl, L5.same (same_new ht3 _), SqT.of upd_same, rfl, List.mem_cons_self, fun H6 s6 L6 => ?_⟩
  have s06 : SameX a H H6 := (((s03.trans (SameX.of s4)).trans s5).trans (SameX.of (same_new ht3 _))).trans s6
  refine ⟨fun σ' H' => σ' = [some (.ref a), some (.int W.horizon), some (.ref th), some (.str sd.name), some (.int (sd.sat : Int)), some (.int (sd.sta : Int)), none, none, none, none, none] ∧ SameX a H H' ∧ LnAt CL H' a (wPas W sd) 6, ?_, fun σ' H8 h => ?_⟩
  · obtain ⟨ls6, l6, xs6, v1, v2, v3, v4, v5⟩ := hT.sameX hL s06
    obtain ⟨_, _, g6, z6⟩ := LnAt.no L6 (m := "read_known_name") (by decide +kernel) (by decide +kernel) (by decide +kernel) (by decide +kernel)
    refine ⟨_, rfl, a, _, _, rfl, g6, z6, _, rfl, th, _, _, .ref l6, rfl, rfl, v1, atI_nat (j := 1) (by rw [List.getElem?_map, v2]; rfl), l6, xs6, _, rfl, v3, v4, v5, fun p7 H7 s7 np7 hp7 => ?_⟩
    refine ⟨a, _, 5, p7, _, staN W sd.sta, sd.sta, 0, rfl, L6.same s7, SqL.of hp7, rfl, staN_ok wok ok.sta, staN_at ok.sta, wok.dStas, by omega, fun H8 s8 L8 => ?_⟩
    exact ⟨rfl, (s06.trans (SameX.of s7)).trans s8, L8⟩
  obtain ⟨rfl, s08, L8⟩ := h
  (obtain ⟨_, _, g8, z8⟩ := LnAt.no L8 (m := "read_field") (by decide +kernel) (by decide +kernel) (by decide +kernel) (by decide +kernel); refine ⟨_, rfl, a, _, _, rfl, g8, z8, _, rfl, _, _, rfl, rfl, a, _, 6, _, _, _, sd.first, rfl, L8, rfl, rfl, by omega, by omega, by omega, by omega, fun H9 s9 L9 => ?_⟩)
  (obtain ⟨_, _, g9, z9⟩ := LnAt.no L9 (m := "read_field") (by decide +kernel) (by decide +kernel) (by decide +kernel) (by decide +kernel); refine ⟨_, rfl, a, _, _, rfl, g9, z9, _, rfl, _, _, rfl, rfl, _, rfl, a, _, 8, _, _, _, sd.fin, rfl, L9, rfl, rfl, by omega, by omega, by omega, by omega, fun H10 s10 L10 => ?_⟩)
  (obtain ⟨_, _, g10, z10⟩ := LnAt.no L10 (m := "read_field") (by decide +kernel) (by decide +kernel) (by decide +kernel) (by decide +kernel); refine ⟨_, rfl, a, _, _, rfl, g10, z10, a, _, 10, _, _, _, sd.room, rfl, L10, rfl, rfl, by omega, by omega, by omega, by omega, fun H11 s11 L11 => ?_⟩)
  (obtain ⟨_, _, g11, z11⟩ := LnAt.no L11 (m := "read_field") (by decide +kernel) (by decide +kernel) (by decide +kernel) (by decide +kernel); refine ⟨_, rfl, a, _, _, rfl, g11, z11, a, _, 12, _, _, _, sd.energy, rfl, L11, rfl, rfl, by omega, by omega, by omega, by omega, fun H12 s12 L12 => ?_⟩)
  (obtain ⟨_, _, g12, z12⟩ := LnAt.no L12 (m := "read_field") (by decide +kernel) (by decide +kernel) (by decide +kernel) (by decide +kernel); refine ⟨_, rfl, a, _, _, rfl, g12, z12, a, _, 14, _, _, _, sd.fee, rfl, L12, rfl, rfl, by omega, by omega, by omega, by omega, fun H13 s13 L13 => ?_⟩)
  refine ⟨_, rfl, _, rfl, _, rfl, _, rfl, _, rfl, (by show 2 ≤ sizeLine; decide), fun sp hsp => ⟨_, rfl, _, rfl, _, rfl, fun x dx hx hdx ne => ?_⟩⟩
  refine ⟨x, dx, _, _, _, _, _, _, _, rfl, upd_same, rfl, ?_⟩
  have sA : SameX a H (upd H13 sp (.tup [.int sd.first, .int sd.fin])) := (((((s08.trans s9).trans s10).trans s11).trans s12).trans s13).trans (SameX.of (same_new hsp _))
  have sB := same_made (o := .own x) (u := .ins CP dx []) (v := .ins CP dx (pasF sd sp)) hx hdx
  have L14 := L13.same (same_new hsp (.tup [.int sd.first, .int sd.fin]))
  obtain ⟨o, ho⟩ := L14.there
  exact q x _ (sA.free ho hx) (sA.trans (SameX.of sB)) (L14.same sB) ⟨x, dx, sp, rfl, upd_same, SqT.of (sB _ _ upd_same)⟩
end
end DP
namespace DP
open PySem PySem.Spec PyProof.Rows L2
section
variable {K : PySem.W.Frag} {CL CS CT CR CP : Addr} {H H' : Hp} {a L : Addr} {ws : List Str} {r : Nat} {x : V} {ys : List V} {o : HO}
theorem SatAt.same {s : SatD} (h : SatAt K CS H x s) (z : Same H H') : SatAt K CS H' x s := by
  obtain ⟨b, dx, t, ls, h1, h2, h3, h4⟩ := h
  exact ⟨b, dx, t, ls, h1, z _ _ h2, Same.tup z h3, h4.same z⟩
theorem StaAt.same {s : StaD} (h : StaAt CT H x s) (z : Same H H') : StaAt CT H' x s := by
  obtain ⟨b, dx, h1, h2⟩ := h
  exact ⟨b, dx, h1, z _ _ h2⟩
theorem RecAt.same {s : RecD} (h : RecAt CR H x s) (z : Same H H') : RecAt CR H' x s := by
  obtain ⟨b, dx, h1, h2⟩ := h
  exact ⟨b, dx, h1, z _ _ h2⟩
theorem PasAt.same {s : PasD} (h : PasAt K CP H x s) (z : Same H H') : PasAt K CP H' x s := by
  obtain ⟨b, dx, t, h1, h2, h3⟩ := h
  exact ⟨b, dx, t, h1, z _ _ h2, Same.tup z h3⟩
theorem SatAt.sx {s : SatD} (h : SatAt K CS H x s) (hL : LnAt CL H a ws r) (z : SameX a H H') : SatAt K CS H' x s := by
  obtain ⟨dx', n, wl, c, g1, g2⟩ := hL.ex
  obtain ⟨b, dx, t, ls, h1, h2, h3, h4⟩ := h
  exact ⟨b, dx, t, ls, h1, z.ins g1 h2 (by show 8 ≠ 4; decide), z.sqT g1 h3, z.spans g1 h4⟩
theorem StaAt.sx {s : StaD} (h : StaAt CT H x s) (hL : LnAt CL H a ws r) (z : SameX a H H') : StaAt CT H' x s := by
  obtain ⟨dx', n, wl, c, g1, g2⟩ := hL.ex
  obtain ⟨b, dx, h1, h2⟩ := h
  exact ⟨b, dx, h1, z.ins g1 h2 (by show 3 ≠ 4; decide)⟩
theorem RecAt.sx {s : RecD} (h : RecAt CR H x s) (hL : LnAt CL H a ws r) (z : SameX a H H') : RecAt CR H' x s := by
  obtain ⟨dx', n, wl, c, g1, g2⟩ := hL.ex
  obtain ⟨b, dx, h1, h2⟩ := h
  exact ⟨b, dx, h1, z.ins g1 h2 (by show 10 ≠ 4; decide)⟩
theorem PasAt.sx {s : PasD} (h : PasAt K CP H x s) (hL : LnAt CL H a ws r) (z : SameX a H H') : PasAt K CP H' x s := by
  obtain ⟨dx', n, wl, c, g1, g2⟩ := hL.ex
  obtain ⟨b, dx, t, h1, h2, h3⟩ := h
  exact ⟨b, dx, t, h1, z.ins g1 h2 (by show 7 ≠ 4; decide), z.sqT g1 h3⟩
theorem SatAt.up {s : SatD} (h : SatAt K CS H x s) (e : H L = some (.lst ys)) : SatAt K CS (L2.upd H L o) x s := by
  obtain ⟨b, dx, t, ls, h1, h2, h3, h4⟩ := h
  exact ⟨b, dx, t, ls, h1, by rw [upd_ne (ne_of h2 e (fun z => nomatch z))]; exact h2, sqT_upd h3 e, h4.upd e⟩
theorem StaAt.up {s : StaD} (h : StaAt CT H x s) (e : H L = some (.lst ys)) : StaAt CT (L2.upd H L o) x s := by
  obtain ⟨b, dx, h1, h2⟩ := h
  exact ⟨b, dx, h1, by rw [upd_ne (ne_of h2 e (fun z => nomatch z))]; exact h2⟩
theorem RecAt.up {s : RecD} (h : RecAt CR H x s) (e : H L = some (.lst ys)) : RecAt CR (L2.upd H L o) x s := by
  obtain ⟨b, dx, h1, h2⟩ := h
  exact ⟨b, dx, h1, by rw [upd_ne (ne_of h2 e (fun z => nomatch z))]; exact h2⟩
theorem PasAt.up {s : PasD} (h : PasAt K CP H x s) (e : H L = some (.lst ys)) : PasAt K CP (L2.upd H L o) x s := by
  obtain ⟨b, dx, t, h1, h2, h3⟩ := h
  exact ⟨b, dx, t, h1, by rw [upd_ne (ne_of h2 e (fun z => nomatch z))]; exact h2, sqT_upd h3 e⟩
/-- a line stays where a list of objects is changed -/
theorem LnAt.up (h : LnAt CL H a ws r) (hne : ws ≠ []) (e : H L = some (.lst ys)) (hr : ∀ y ∈ ys, ∃ t, y = V.ref t) : LnAt CL (L2.upd H L o) a ws r := by
  obtain ⟨dx, n, wl, c, h1, h2⟩ := h.ex
  refine ⟨⟨dx, n, wl, c, by rw [upd_ne (ne_of h1 e (fun z => nomatch z))]; exact h1, ?_⟩, h.ok⟩
  rw [upd_ne]
  · exact h2
  · intro z
    rw [z, e] at h2
    have e2 : ys = ws.map V.str := HO.lst.inj (Option.some.inj h2)
    cases ws with
    | nil => exact hne rfl
    | cons w wr =>
      obtain ⟨t, ht⟩ := hr (.str w) (by rw [e2]; exact List.mem_cons_self)
      cases ht
theorem LnAt.sx {b : Addr} {vs : List Str} {q : Nat} (h : LnAt CL H a ws r) (hL : LnAt CL H b vs q) (n : a ≠ b) (z : SameX b H H') : LnAt CL H' a ws r := by
  obtain ⟨dx', n', wl', c', g1, g2⟩ := hL.ex
  obtain ⟨dx, m, wl, c, h1, h2⟩ := h.ex
  exact ⟨⟨dx, m, wl, c, z _ _ n h1, z _ _ (ne_of h2 g1 (fun z => nomatch z)) h2⟩, h.ok⟩
end
/-- the four lists of a world's things as far as they are read -/
structure Thg (K : PySem.W.Frag) (CS CT CR CP : Addr) (H : Hp) (th l0 l1 l2 l3 : Addr) (S : List SatD) (T : List StaD) (R : List RecD) (P : List PasD) : Prop where
  tup : H th = some (.tup [.ref l0, .ref l1, .ref l2, .ref l3])
  d01 : l0 ≠ l1
  d02 : l0 ≠ l2
  d03 : l0 ≠ l3
  d12 : l1 ≠ l2
  d13 : l1 ≠ l3
  d23 : l2 ≠ l3
  sats : ∃ xs, H l0 = some (.lst xs) ∧ Paired (SatAt K CS H) xs S
  stas : ∃ xs, H l1 = some (.lst xs) ∧ Paired (StaAt CT H) xs T
  recs : ∃ xs, H l2 = some (.lst xs) ∧ Paired (RecAt CR H) xs R
  pass : ∃ xs, H l3 = some (.lst xs) ∧ Paired (PasAt K CP H) xs P
theorem refs_sat {K : PySem.W.Frag} {C : Addr} {H : Hp} {xs : List V} {S : List SatD} (h : Paired (SatAt K C H) xs S) : ∀ y ∈ xs, ∃ t, y = V.ref t := fun y hy => by
  obtain ⟨i, hi, e⟩ := List.mem_iff_getElem.mp hy
  obtain ⟨s, _, b, _, _, _, e1, _⟩ := paired_at h (List.getElem?_eq_getElem hi)
  exact ⟨b, by rw [← e, e1]⟩
theorem refs_sta {C : Addr} {H : Hp} {xs : List V} {S : List StaD} (h : Paired (StaAt C H) xs S) : ∀ y ∈ xs, ∃ t, y = V.ref t := fun y hy => by
  obtain ⟨i, hi, e⟩ := List.mem_iff_getElem.mp hy
  obtain ⟨s, _, b, _, e1, _⟩ := paired_at h (List.getElem?_eq_getElem hi)
  exact ⟨b, by rw [← e, e1]⟩
theorem refs_rec {C : Addr} {H : Hp} {xs : List V} {S : List RecD} (h : Paired (RecAt C H) xs S) : ∀ y ∈ xs, ∃ t, y = V.ref t := fun y hy => by
  obtain ⟨i, hi, e⟩ := List.mem_iff_getElem.mp hy
  obtain ⟨s, _, b, _, e1, _⟩ := paired_at h (List.getElem?_eq_getElem hi)
  exact ⟨b, by rw [← e, e1]⟩
theorem refs_pas {K : PySem.W.Frag} {C : Addr} {H : Hp} {xs : List V} {S : List PasD} (h : Paired (PasAt K C H) xs S) : ∀ y ∈ xs, ∃ t, y = V.ref t := fun y hy => by
  obtain ⟨i, hi, e⟩ := List.mem_iff_getElem.mp hy
  obtain ⟨s, _, b, _, _, e1, _⟩ := paired_at h (List.getElem?_eq_getElem hi)
  exact ⟨b, by rw [← e, e1]⟩
section
variable {K : PySem.W.Frag} {CL CS CT CR CP : Addr} {H H' : Hp} {a th l0 l1 l2 l3 : Addr} {ws : List Str} {r : Nat} {S : List SatD} {T : List StaD} {R : List RecD} {P : List PasD}
theorem Thg.same (h : Thg K CS CT CR CP H th l0 l1 l2 l3 S T R P) (z : Same H H') : Thg K CS CT CR CP H' th l0 l1 l2 l3 S T R P := by
  obtain ⟨x0, a0, b0⟩ := h.sats
  obtain ⟨x1, a1, b1⟩ := h.stas
  obtain ⟨x2, a2, b2⟩ := h.recs
  obtain ⟨x3, a3, b3⟩ := h.pass
  exact ⟨z _ _ h.tup, h.d01, h.d02, h.d03, h.d12, h.d13, h.d23, ⟨x0, z _ _ a0, Paired.mapP b0 fun _ _ y => y.same z⟩, ⟨x1, z _ _ a1, Paired.mapP b1 fun _ _ y => y.same z⟩, ⟨x2, z _ _ a2, Paired.mapP b2 fun _ _ y => y.same z⟩, ⟨x3, z _ _ a3, Paired.mapP b3 fun _ _ y => y.same z⟩⟩
theorem Thg.sx (h : Thg K CS CT CR CP H th l0 l1 l2 l3 S T R P) (hL : LnAt CL H a ws r) (z : SameX a H H') : Thg K CS CT CR CP H' th l0 l1 l2 l3 S T R P := by
  obtain ⟨dx', n', wl', c', g1, g2⟩ := hL.ex
  obtain ⟨x0, a0, b0⟩ := h.sats
  obtain ⟨x1, a1, b1⟩ := h.stas
  obtain ⟨x2, a2, b2⟩ := h.recs
  obtain ⟨x3, a3, b3⟩ := h.pass
  exact ⟨z _ _ (ne_of h.tup g1 (fun z => nomatch z)) h.tup, h.d01, h.d02, h.d03, h.d12, h.d13, h.d23, ⟨x0, z _ _ (ne_of a0 g1 (fun z => nomatch z)) a0, Paired.mapP b0 fun _ _ y => y.sx hL z⟩, ⟨x1, z _ _ (ne_of a1 g1 (fun z => nomatch z)) a1, Paired.mapP b1 fun _ _ y => y.sx hL z⟩,
    ⟨x2, z _ _ (ne_of a2 g1 (fun z => nomatch z)) a2, Paired.mapP b2 fun _ _ y => y.sx hL z⟩, ⟨x3, z _ _ (ne_of a3 g1 (fun z => nomatch z)) a3, Paired.mapP b3 fun _ _ y => y.sx hL z⟩⟩
theorem Thg.push0 {xs : List V} {b : Addr} {s : SatD} (h : Thg K CS CT CR CP H th l0 l1 l2 l3 S T R P) (e : H l0 = some (.lst xs)) (k : SatAt K CS H (.ref b) s) : Thg K CS CT CR CP (L2.upd H l0 (.lst (xs ++ [.ref b]))) th l0 l1 l2 l3 (S ++ [s]) T R P := by
  obtain ⟨x0, a0, b0⟩ := h.sats
  obtain ⟨x1, a1, b1⟩ := h.stas
  obtain ⟨x2, a2, b2⟩ := h.recs
  obtain ⟨x3, a3, b3⟩ := h.pass
  have ex : x0 = xs := HO.lst.inj (Option.some.inj (a0.symm.trans e))
  subst ex
  exact ⟨by rw [upd_ne (ne_of h.tup e (fun z => nomatch z))]; exact h.tup, h.d01, h.d02, h.d03, h.d12, h.d13, h.d23, ⟨_, upd_same, paired_snoc (Paired.mapP b0 fun _ _ y => y.up e) (k.up e)⟩, ⟨x1, by rw [upd_ne h.d01.symm]; exact a1, Paired.mapP b1 fun _ _ y => y.up e⟩,
    ⟨x2, by rw [upd_ne h.d02.symm]; exact a2, Paired.mapP b2 fun _ _ y => y.up e⟩, ⟨x3, by rw [upd_ne h.d03.symm]; exact a3, Paired.mapP b3 fun _ _ y => y.up e⟩⟩
theorem Thg.push1 {xs : List V} {b : Addr} {s : StaD} (h : Thg K CS CT CR CP H th l0 l1 l2 l3 S T R P) (e : H l1 = some (.lst xs)) (k : StaAt CT H (.ref b) s) : Thg K CS CT CR CP (L2.upd H l1 (.lst (xs ++ [.ref b]))) th l0 l1 l2 l3 S (T ++ [s]) R P := by
  obtain ⟨x0, a0, b0⟩ := h.sats
  obtain ⟨x1, a1, b1⟩ := h.stas
  obtain ⟨x2, a2, b2⟩ := h.recs
  obtain ⟨x3, a3, b3⟩ := h.pass
  have ex : x1 = xs := HO.lst.inj (Option.some.inj (a1.symm.trans e))
  subst ex
  exact ⟨by rw [upd_ne (ne_of h.tup e (fun z => nomatch z))]; exact h.tup, h.d01, h.d02, h.d03, h.d12, h.d13, h.d23, ⟨x0, by rw [upd_ne h.d01]; exact a0, Paired.mapP b0 fun _ _ y => y.up e⟩, ⟨_, upd_same, paired_snoc (Paired.mapP b1 fun _ _ y => y.up e) (k.up e)⟩,
    ⟨x2, by rw [upd_ne h.d12.symm]; exact a2, Paired.mapP b2 fun _ _ y => y.up e⟩, ⟨x3, by rw [upd_ne h.d13.symm]; exact a3, Paired.mapP b3 fun _ _ y => y.up e⟩⟩
theorem Thg.push2 {xs : List V} {b : Addr} {s : RecD} (h : Thg K CS CT CR CP H th l0 l1 l2 l3 S T R P) (e : H l2 = some (.lst xs)) (k : RecAt CR H (.ref b) s) : Thg K CS CT CR CP (L2.upd H l2 (.lst (xs ++ [.ref b]))) th l0 l1 l2 l3 S T (R ++ [s]) P := by
  obtain ⟨x0, a0, b0⟩ := h.sats
  obtain ⟨x1, a1, b1⟩ := h.stas
  obtain ⟨x2, a2, b2⟩ := h.recs
  obtain ⟨x3, a3, b3⟩ := h.pass
  have ex : x2 = xs := HO.lst.inj (Option.some.inj (a2.symm.trans e))
  subst ex
  exact ⟨by rw [upd_ne (ne_of h.tup e (fun z => nomatch z))]; exact h.tup, h.d01, h.d02, h.d03, h.d12, h.d13, h.d23, ⟨x0, by rw [upd_ne h.d02]; exact a0, Paired.mapP b0 fun _ _ y => y.up e⟩, ⟨x1, by rw [upd_ne h.d12]; exact a1, Paired.mapP b1 fun _ _ y => y.up e⟩,
    ⟨_, upd_same, paired_snoc (Paired.mapP b2 fun _ _ y => y.up e) (k.up e)⟩, ⟨x3, by rw [upd_ne h.d23.symm]; exact a3, Paired.mapP b3 fun _ _ y => y.up e⟩⟩
theorem Thg.push3 {xs : List V} {b : Addr} {s : PasD} (h : Thg K CS CT CR CP H th l0 l1 l2 l3 S T R P) (e : H l3 = some (.lst xs)) (k : PasAt K CP H (.ref b) s) : Thg K CS CT CR CP (L2.upd H l3 (.lst (xs ++ [.ref b]))) th l0 l1 l2 l3 S T R (P ++ [s]) := by
  obtain ⟨x0, a0, b0⟩ := h.sats
  obtain ⟨x1, a1, b1⟩ := h.stas
  obtain ⟨x2, a2, b2⟩ := h.recs
  obtain ⟨x3, a3, b3⟩ := h.pass
  have ex : x3 = xs := HO.lst.inj (Option.some.inj (a3.symm.trans e))
  subst ex
  exact ⟨by rw [upd_ne (ne_of h.tup e (fun z => nomatch z))]; exact h.tup, h.d01, h.d02, h.d03, h.d12, h.d13, h.d23, ⟨x0, by rw [upd_ne h.d03]; exact a0, Paired.mapP b0 fun _ _ y => y.up e⟩, ⟨x1, by rw [upd_ne h.d13]; exact a1, Paired.mapP b1 fun _ _ y => y.up e⟩,
    ⟨x2, by rw [upd_ne h.d23]; exact a2, Paired.mapP b2 fun _ _ y => y.up e⟩, ⟨_, upd_same, paired_snoc (Paired.mapP b3 fun _ _ y => y.up e) (k.up e)⟩⟩
end
theorem paired_map {α β γ : Type} {F : α → β → Prop} {G : α → γ → Prop} {f : β → γ} (h : ∀ a b, F a b → G a (f b)) : ∀ {xs : List α} {ys : List β}, Paired F xs ys → Paired G xs (ys.map f)
  | _, _, .nil => .nil
  | _, _, .cons a t => .cons (h _ _ a) (paired_map h t)
section
variable {K : PySem.W.Frag} {mg : Str → Option Value} {CL CS CT CR CP CW aS aR fS fT fR fP : Addr} {H : Hp} {th l0 l1 l2 l3 : Addr} {S : List SatD} {T : List StaD} {R : List RecD} {P : List PasD}
theorem Thg.list (h : Thg K CS CT CR CP H th l0 l1 l2 l3 S T R P) : SqT K H th (([l0, l1, l2, l3]).map V.ref) := SqT.of h.tup
theorem Thg.n0 (X : TxtW K mg CL CS CT CR CP CW aS aR fS fT fR fP) (h : Thg K CS CT CR CP H th l0 l1 l2 l3 S T R P) (hl : S.length ≤ 100) : NamesAt K H th 0 (S.map (·.name)) := by
  obtain ⟨xs, a, b⟩ := h.sats
  exact ⟨[l0, l1, l2, l3], l0, xs, h.list, rfl, SqL.of a, paired_map (fun _ _ ⟨b, dx, t, ls, h1, h2, _⟩ => ⟨b, CS, dx, _, h1, h2, X.c_Satellite.cl, X.n_Satellite_name, lk_hit⟩) b, by rw [List.length_map]; exact hl⟩
theorem Thg.n1 (X : TxtW K mg CL CS CT CR CP CW aS aR fS fT fR fP) (h : Thg K CS CT CR CP H th l0 l1 l2 l3 S T R P) (hl : T.length ≤ 100) : NamesAt K H th 1 (T.map (·.name)) := by
  obtain ⟨xs, a, b⟩ := h.stas
  exact ⟨[l0, l1, l2, l3], l1, xs, h.list, rfl, SqL.of a, paired_map (fun _ _ ⟨b, dx, h1, h2⟩ => ⟨b, CT, dx, _, h1, h2, X.c_Station.cl, X.n_Station_name, lk_hit⟩) b, by rw [List.length_map]; exact hl⟩
theorem Thg.n2 (X : TxtW K mg CL CS CT CR CP CW aS aR fS fT fR fP) (h : Thg K CS CT CR CP H th l0 l1 l2 l3 S T R P) (hl : R.length ≤ 100) : NamesAt K H th 2 (R.map (·.name)) := by
  obtain ⟨xs, a, b⟩ := h.recs
  exact ⟨[l0, l1, l2, l3], l2, xs, h.list, rfl, SqL.of a, paired_map (fun _ _ ⟨b, dx, h1, h2⟩ => ⟨b, CR, dx, _, h1, h2, X.c_Recording.cl, X.n_Recording_name, lk_hit⟩) b, by rw [List.length_map]; exact hl⟩
theorem Thg.n3 (X : TxtW K mg CL CS CT CR CP CW aS aR fS fT fR fP) (h : Thg K CS CT CR CP H th l0 l1 l2 l3 S T R P) (hl : P.length ≤ 100) : NamesAt K H th 3 (P.map (·.name)) := by
  obtain ⟨xs, a, b⟩ := h.pass
  exact ⟨[l0, l1, l2, l3], l3, xs, h.list, rfl, SqL.of a, paired_map (fun _ _ ⟨b, dx, t, h1, h2, _⟩ => ⟨b, CP, dx, _, h1, h2, X.c_Pass.cl, X.n_Pass_name, lk_hit⟩) b, by rw [List.length_map]; exact hl⟩
end
end DP
namespace DP
open PySem PySem.Spec PyProof.Rows L2
/-- what is read ahead of the i-th line behind the first one -/
def preS (W : WorldD) (i : Nat) : List SatD := W.sats.take i
def preT (W : WorldD) (i : Nat) : List StaD := W.stas.take (i - W.sats.length)
def preR (W : WorldD) (i : Nat) : List RecD := W.recs.take (i - W.sats.length - W.stas.length)
def preP (W : WorldD) (i : Nat) : List PasD := W.pass.take (i - W.sats.length - W.stas.length - W.recs.length)
/-- the lines behind the first one -/
def restW (W : WorldD) : List (List Str) := W.sats.map wSat ++ W.stas.map wSta ++ W.recs.map (wRec W) ++ W.pass.map (wPas W)
/-- the sort of the i-th -/
def kindW (W : WorldD) (i : Nat) : Nat := if i < W.sats.length then 0 else if i < W.sats.length + W.stas.length then 1 else if i < W.sats.length + W.stas.length + W.recs.length then 2 else 3
theorem restW_len (W : WorldD) : (restW W).length = W.sats.length + W.stas.length + W.recs.length + W.pass.length := by
  unfold restW
  rw [List.length_append, List.length_append, List.length_append, List.length_map, List.length_map, List.length_map, List.length_map]
theorem take_snoc {α : Type} {l : List α} {i : Nat} {x : α} (h : l[i]? = some x) : l.take (i + 1) = l.take i ++ [x] := by
  rw [List.take_add_one, h]
  rfl
theorem sub_lo {i a : Nat} (h : i < a) : i + 1 - a = i - a := by rw [Nat.sub_eq_zero_of_le h, Nat.sub_eq_zero_of_le (Nat.le_of_lt h)]
theorem sub_hi {i a : Nat} (h : ¬ i < a) : i + 1 - a = i - a + 1 := Nat.succ_sub (Nat.not_lt.mp h)
theorem sub_in {i a b : Nat} (h : ¬ i < a) : i - a < b ↔ i < a + b := Nat.sub_lt_iff_lt_add' (Nat.not_lt.mp h)
/-- the i-th line, by its sort -/
theorem restW_at (W : WorldD) {i : Nat} (hi : i < (restW W).length) :
    (∃ s, kindW W i = 0 ∧ s ∈ W.sats ∧ (restW W)[i]? = some (wSat s) ∧ W.sats[i]? = some s ∧ preS W (i + 1) = preS W i ++ [s] ∧ preT W (i + 1) = preT W i ∧ preR W (i + 1) = preR W i ∧ preP W (i + 1) = preP W i) ∨
    (∃ s, kindW W i = 1 ∧ s ∈ W.stas ∧ (restW W)[i]? = some (wSta s) ∧ W.stas[i - W.sats.length]? = some s ∧ preS W (i + 1) = preS W i ∧ preT W (i + 1) = preT W i ++ [s] ∧ preR W (i + 1) = preR W i ∧ preP W (i + 1) = preP W i ∧ preS W i = W.sats) ∨
    (∃ s, kindW W i = 2 ∧ s ∈ W.recs ∧ (restW W)[i]? = some (wRec W s) ∧ W.recs[i - W.sats.length - W.stas.length]? = some s ∧ preS W (i + 1) = preS W i ∧ preT W (i + 1) = preT W i ∧ preR W (i + 1) = preR W i ++ [s] ∧ preP W (i + 1) = preP W i ∧ preS W i = W.sats ∧ preT W i = W.stas) ∨
    (∃ s, kindW W i = 3 ∧ s ∈ W.pass ∧ (restW W)[i]? = some (wPas W s) ∧ W.pass[i - W.sats.length - W.stas.length - W.recs.length]? = some s ∧ preS W (i + 1) = preS W i ∧ preT W (i + 1) = preT W i ∧ preR W (i + 1) = preR W i ∧ preP W (i + 1) = preP W i ++ [s] ∧ preS W i = W.sats ∧ preT W i = W.stas) := by
  rw [restW_len] at hi
  by_cases c0 : i < W.sats.length
  · have e : W.sats[i]? = some W.sats[i] := List.getElem?_eq_getElem c0
    refine .inl ⟨W.sats[i], by unfold kindW; rw [if_pos c0], List.getElem_mem c0, ?_, e, take_snoc e, ?_, ?_, ?_⟩
    · unfold restW
      rw [List.append_assoc, List.append_assoc, List.getElem?_append_left (by rw [List.length_map]; exact c0), List.getElem?_map, e]
      rfl
    · unfold preT; rw [sub_lo c0]
    · unfold preR; rw [sub_lo c0]
    · unfold preP; rw [sub_lo c0]
  have aS : ∀ j, W.sats.length ≤ j → preS W j = W.sats := fun j hj => List.take_of_length_le hj
  have d0 := Nat.not_lt.mp c0
  have e0 := Nat.le_succ_of_le d0
  by_cases c1 : i < W.sats.length + W.stas.length
  · have hj : i - W.sats.length < W.stas.length := (sub_in c0).mpr c1
    have e : W.stas[i - W.sats.length]? = some W.stas[i - W.sats.length] := List.getElem?_eq_getElem hj
    refine .inr (.inl ⟨_, by unfold kindW; rw [if_neg c0, if_pos c1], List.getElem_mem hj, ?_, e, by rw [aS _ e0, aS _ d0], ?_, ?_, ?_, aS _ d0⟩)
    · unfold restW
      rw [List.append_assoc, List.append_assoc, List.getElem?_append_right (by rw [List.length_map]; exact d0), List.length_map, List.getElem?_append_left (by rw [List.length_map]; exact hj), List.getElem?_map, e]
      rfl
    · unfold preT; rw [sub_hi c0]; exact take_snoc e
    · unfold preR; rw [sub_hi c0, sub_lo hj]
    · unfold preP; rw [sub_hi c0, sub_lo hj]
  have aT : ∀ j, W.sats.length + W.stas.length ≤ j → preT W j = W.stas := fun j hj => List.take_of_length_le (Nat.le_sub_of_add_le' hj)
  have n1 : ¬ i - W.sats.length < W.stas.length := fun z => c1 ((sub_in c0).mp z)
  have d1 := Nat.not_lt.mp c1
  have e1 := Nat.le_succ_of_le d1
  have d2 := Nat.not_lt.mp n1
  by_cases c2 : i < W.sats.length + W.stas.length + W.recs.length
  · have hj : i - W.sats.length - W.stas.length < W.recs.length := (sub_in n1).mpr ((sub_in c0).mpr (by rw [← Nat.add_assoc]; exact c2))
    have e : W.recs[i - W.sats.length - W.stas.length]? = some W.recs[i - W.sats.length - W.stas.length] := List.getElem?_eq_getElem hj
    refine .inr (.inr (.inl ⟨_, by unfold kindW; rw [if_neg c0, if_neg c1, if_pos c2], List.getElem_mem hj, ?_, e, by rw [aS _ e0, aS _ d0], by rw [aT _ e1, aT _ d1], ?_, ?_, aS _ d0, aT _ d1⟩))
    · unfold restW
      rw [List.append_assoc, List.append_assoc, List.getElem?_append_right (by rw [List.length_map]; exact d0), List.length_map, List.getElem?_append_right (by rw [List.length_map]; exact d2), List.length_map, List.getElem?_append_left (by rw [List.length_map]; exact hj), List.getElem?_map, e]
      rfl
    · unfold preR; rw [sub_hi c0, sub_hi n1]; exact take_snoc e
    · unfold preP; rw [sub_hi c0, sub_hi n1, sub_lo hj]
  have n2 : ¬ i - W.sats.length - W.stas.length < W.recs.length := fun z => c2 (by rw [Nat.add_assoc]; exact (sub_in c0).mp ((sub_in n1).mp z))
  have d3 := Nat.not_lt.mp n2
  have d4 := Nat.not_lt.mp c2
  have e4 := Nat.le_succ_of_le d4
  have hj : i - W.sats.length - W.stas.length - W.recs.length < W.pass.length := (sub_in n2).mpr ((sub_in n1).mpr ((sub_in c0).mpr (by rw [← Nat.add_assoc, ← Nat.add_assoc]; exact hi)))
  have e : W.pass[i - W.sats.length - W.stas.length - W.recs.length]? = some W.pass[i - W.sats.length - W.stas.length - W.recs.length] := List.getElem?_eq_getElem hj
  have aR : ∀ j, W.sats.length + W.stas.length + W.recs.length ≤ j → preR W j = W.recs := fun j hj => List.take_of_length_le (Nat.le_sub_of_add_le' (Nat.le_sub_of_add_le' (by rw [← Nat.add_assoc]; exact hj)))
  refine .inr (.inr (.inr ⟨_, by unfold kindW; rw [if_neg c0, if_neg c1, if_neg c2], List.getElem_mem hj, ?_, e, by rw [aS _ e0, aS _ d0], by rw [aT _ e1, aT _ d1], by rw [aR _ e4, aR _ d4], ?_, aS _ d0, aT _ d1⟩))
  · unfold restW
    rw [List.append_assoc, List.append_assoc, List.getElem?_append_right (by rw [List.length_map]; exact d0), List.length_map, List.getElem?_append_right (by rw [List.length_map]; exact d2), List.length_map, List.getElem?_append_right (by rw [List.length_map]; exact d3), List.length_map, List.getElem?_map, e]
    rfl
  · unfold preP; rw [sub_hi c0, sub_hi n1, sub_hi n2]; exact take_snoc e
theorem kindW_mono (W : WorldD) (i : Nat) : kindW W i ≤ kindW W (i + 1) := by
  unfold kindW
  by_cases c0 : i < W.sats.length
  · rw [if_pos c0]; exact Nat.zero_le _
  rw [if_neg c0, if_neg (show ¬ i + 1 < W.sats.length by omega)]
  by_cases c1 : i < W.sats.length + W.stas.length
  · rw [if_pos c1]
    split
    · exact Nat.le_refl _
    · split <;> omega
  rw [if_neg c1, if_neg (show ¬ i + 1 < W.sats.length + W.stas.length by omega)]
  by_cases c2 : i < W.sats.length + W.stas.length + W.recs.length
  · rw [if_pos c2]
    split <;> omega
  · rw [if_neg c2, if_neg (show ¬ i + 1 < W.sats.length + W.stas.length + W.recs.length by omega)]
    exact Nat.le_refl _
/-- a name is not among those ahead of it -/
theorem fresh_name {α : Type} {f : α → Str} {l : List α} {i : Nat} {s : α} (hd : (l.map f).Nodup) (h : l[i]? = some s) : f s ∉ (l.take i).map f := fun z => by
  obtain ⟨t, ht, e⟩ := List.mem_map.mp z
  obtain ⟨j, hj, ej⟩ := List.mem_iff_getElem.mp ht
  rw [List.getElem_take] at ej
  rw [List.length_take] at hj
  obtain ⟨hi, es⟩ := List.getElem?_eq_some_iff.mp h
  have h1 : (l.map f)[j]'(by rw [List.length_map]; omega) = (l.map f)[i]'(by rw [List.length_map]; exact hi) := by
    rw [List.getElem_map, List.getElem_map, ej, es]
    exact e
  have := (List.getElem_inj hd).mp h1
  omega
def sortsL : List Str := ["satellite", "station", "recording", "pass"]
section
variable {P : Program} {w : World} {K : PySem.W.Frag} {mg : Str → Option Value} {base : Heap} {CL CS CT CR CP CW aS aR fS fT fR fP : Addr}
def mostK : List Int := [3, 3, 10, 10]
def spMost : Sp := fun vs H Q _ => ∃ (i : Nat) (m : Int), vs = [.int (i : Int)] ∧ mostK[i]? = some m ∧ ∀ H', Same H H' → Q (.int m) H'
theorem d_most_things (T : TxtW K mg CL CS CT CR CP CW aS aR fS fT fR fP) (A : At K mg "most_things" s_most_things ["sort"]) : DefOk P w K mg base CX0 1 "most_things" ["sort"] spMost := by
  have B := T.L.B
  refine A.ok sc_most_things (fun vs H Q E h => ?_) (fun f cdv A outer s H vs Q E hr h => ?_)
  · obtain ⟨i, m, rfl, _⟩ := h
    rfl
  obtain ⟨i, m, rfl, hi, q⟩ := h
  refine ⟨_, pss_cons (ps_set (i := 1) sc_most_things.nd rfl (Or.inl rfl) (pe_tup (pa_cons (ClX.pe_cval (pe_ga T.c_World.gC) rfl) (pa_cons (ClX.pe_cval (pe_ga T.c_World.gC) rfl) (pa_cons (ClX.pe_cval (pe_ga T.c_World.gC) rfl) (pa_cons (ClX.pe_cval (pe_ga T.c_World.gC) rfl) pa_nil))))))
  (pss_one (ps_ret (pe_ix ix_tup (pv 1) (pv 0) (fun _ _ => rfl))))
    , ?_⟩
  obtain ⟨k1, h1⟩ := T.v_MOST_SATELLITES
  obtain ⟨k2, h2⟩ := T.v_MOST_STATIONS
  obtain ⟨k3, h3⟩ := T.v_MOST_RECORDINGS
  obtain ⟨k4, h4⟩ := T.v_MOST_PASSES
  refine ⟨CW, _, _, _, rfl, T.rdW, h1, CW, _, _, _, rfl, T.rdW, h2, CW, _, _, _, rfl, T.rdW, h3, CW, _, _, _, rfl, T.rdW, h4, (by show 4 ≤ sizeLine; decide), fun p hp => ?_⟩
  refine ⟨_, rfl, _, rfl, p, _, _, .int m, rfl, rfl, SqT.of upd_same, atI_nat ?_, q _ (same_new hp _)⟩
  have e : ([V.int 3, V.int 3, V.int 10, V.int 10] : List V) = mostK.map V.int := rfl
  rw [e, List.getElem?_map, hi]
  rfl
def spSort (K : PySem.W.Frag) (CL : Addr) : Sp := fun vs H Q _ => ∃ (a : Addr) (ws : List Str) (ahead : Int) (th : Addr) (ls : List Addr) (l : Addr) (xs : List V) (i : Nat) (u : Str) (m : Int), vs = [.ref a, .int ahead, .ref th] ∧ LnAt CL H a ws 0 ∧ ws[0]? = some u ∧ sortsL[i]? = some u ∧ ahead ≤ (i : Int) ∧
  SqT K H th (ls.map V.ref) ∧ ls[i]? = some l ∧ SqL K H l xs ∧ mostK[i]? = some m ∧ (xs.length : Int) < m ∧ ∀ H', SameX a H H' → LnAt CL H' a ws 1 → Q (.int (i : Int)) H'
theorem sorts_first {u : Str} : ∀ {i : Nat}, sortsL[i]? = some u → ∀ m, m < i → sortsL[m]? ≠ some u := by
  have nd : sortsL.Nodup := by decide +kernel
  intro i h m hm z
  obtain ⟨h1, e1⟩ := List.getElem?_eq_some_iff.mp h
  obtain ⟨h2, e2⟩ := List.getElem?_eq_some_iff.mp z
  have := (List.getElem_inj nd).mp (e1.trans e2.symm)
  omega
theorem d_read_sort (T : TxtW K mg CL CS CT CR CP CW aS aR fS fT fR fP) (D_Line_due : MDef P w K mg base CX0 2 CL "due" ["self"] [] (spDue CL)) (D_Line_step : MDef P w K mg base CX0 1 CL "step" ["self"] [] (spStep CL)) (D_most_things : DefOk P w K mg base CX0 1 "most_things" ["sort"] spMost)
    (A : At K mg "read_sort" s_read_sort ["line", "ahead", "things"]) : DefOk P w K mg base CX0 3 "read_sort" ["line", "ahead", "things"] (spSort K CL) := by
  have B := T.L.B
  refine A.ok sc_read_sort (fun vs H Q E h => ?_) (fun f cdv A outer s H vs Q E hr h => ?_)
  · obtain ⟨a, ws, ahead, th, ls, l, xs, i, u, m, rfl, _⟩ := h
    rfl
  obtain ⟨a, ws, ahead, th, ls, l, xs, i, u, m, rfl, hL, hu, hi, hah, h1, h2, h3, h4, h5, q⟩ := h
  refine ⟨_, pss_cons (ps_set (i := 3) sc_read_sort.nd rfl (Or.inl rfl) (pe_m0 D_Line_due T.c_Line.cl (hr.mono (by omega)) pass0 (pv 0)))
  (pss_cons (ps_if (pt_cmpR op_notIn_seq (pv 3) (pe_ga T.g_SORTS) (by rfl))
      (pss_one (ps_never))
      (pss_nil))
  (pss_cons (ps_set (i := 4) sc_read_sort.nd rfl (Or.inl rfl) (pe_bm PySem.F.plainAttrs_tuple PySem.F.slot_tuple_index PySem.F.type_tuple_index mt_tup_index (pe_ga T.g_SORTS) (pa_cons (pv 3) pa_nil)))
  (pss_cons (ps_if (pt_cmpR op_lt (pv 4) (pv 1) (nomark _))
      (pss_one (ps_never))
      (pss_nil))
  (pss_cons (ps_if (pt_cmpR op_eq (pe_callB (call_len_seq) (by rfl) B.len (by decide +kernel) (pa_cons (pe_ix ix_tup (pv 2) (pv 4) (fun _ _ => rfl)) pa_nil)) (pe_f D_most_things (hr.mono (by omega)) pass0 (pa_cons (pv 4) pa_nil)) (nomark _))
      (pss_one (ps_never))
      (pss_nil))
  (pss_cons (ps_expr (pe_m0 D_Line_step T.c_Line.cl (hr.mono (by omega)) pass0 (pv 0)))
  (pss_one (ps_ret (pv 4))))))))
    , ?_⟩
  have hm : u ∈ sortsL := List.mem_of_getElem? hi
  have hr' : 0 < ws.length := (List.getElem?_eq_some_iff.mp hu).1
  obtain ⟨dx, fs, g0, z0⟩ := LnAt.no hL (m := "due") (by decide +kernel) (by decide +kernel) (by decide +kernel) (by decide +kernel)
  refine ⟨_, rfl, a, _, _, rfl, g0, z0, a, ws, 0, u, rfl, hL, hu, ?_⟩
  refine ⟨_, rfl, aS, _, rfl, .inr (T.t_SORTS H), rfl, flat_strs, _, rfl, iteF' (by rw [show (([("satellite" : Str), "station", "recording", "pass"]).map V.str) = sortsL.map V.str from rfl, inV_str, decide_eq_true hm]; rfl) ?_⟩
  obtain ⟨o, ho1, ho2, ho3⟩ := T.k_SORTS
  refine ⟨.inr (.inl ⟨rfl, o, ho1, ho2, ho3⟩), _, rfl, aS, sortsL, u, i, rfl, rfl, T.t_SORTS H, hi, sorts_first hi, ?_⟩
  refine ⟨_, rfl, _, rfl, _, _, rfl, rfl, _, rfl, iteF' (decide_eq_false (by omega)) ?_⟩
  refine ⟨_, rfl, _, rfl, th, _, _, .ref l, rfl, rfl, h1, atI_nat (by rw [List.getElem?_map, h2]; rfl), l, xs, rfl, .inl h3, _, rfl, i, m, rfl, h4, fun H1 s1 => ?_⟩
  refine ⟨rfl, _, rfl, iteF' (decide_eq_false fun z => by have := V.int.inj z; omega) ?_⟩
  obtain ⟨dx, fs, g1, z1⟩ := LnAt.no (hL.same s1) (m := "step") (by decide +kernel) (by decide +kernel) (by decide +kernel) (by decide +kernel)
  refine ⟨_, rfl, a, _, _, rfl, g1, z1, a, ws, 0, rfl, hL.same s1, hr', fun H2 s2 L2 => ?_⟩
  exact ⟨_, rfl, q H2 ((SameX.of s1).trans s2) L2⟩
end
end DP
namespace DP
open PySem PySem.Spec PyProof.Rows L2
def SameA (as : List Addr) (H H' : Hp) : Prop := ∀ b o, b ∉ as → H b = some o → H' b = some o
theorem SameA.trans {as : List Addr} {H H1 H2 : Hp} (x : SameA as H H1) (y : SameA as H1 H2) : SameA as H H2 := fun b o n h => y b o n (x b o n h)
theorem SameA.of {as : List Addr} {H H' : Hp} (s : Same H H') : SameA as H H' := fun b o _ h => s b o h
theorem SameA.ofX {as : List Addr} {a : Addr} {H H' : Hp} (s : SameX a H H') (h : a ∈ as) : SameA as H H' := fun b o n q => s b o (fun z => n (z ▸ h)) q
theorem SameA.new {as : List Addr} {H H' : Hp} {L : Addr} {o : HO} (hL : H L = none) (s : SameA as H H') : SameA as H (upd H' L o) := fun b u n h => by
  rw [upd_ne (ne_of_none h hL)]
  exact s b u n h
theorem at_ne {K : PySem.W.Frag} {mg : Str → Option Value} {x y : Str} {st st' : Stmt} {ps ps' : List Str} {f g : Addr} (A : At K mg x st ps) (B : At K mg y st' ps') (hf : mg x = some (.ref f)) (hg : mg y = some (.ref g)) (n : x ≠ y) : f ≠ g := fun z => by
  obtain ⟨f', fd, F, e1, _⟩ := A.ex
  obtain ⟨g', gd, G, e2, _⟩ := B.ex
  rw [hf] at e1
  rw [hg] at e2
  cases e1
  cases e2
  obtain ⟨_, _, _, _, _, _, _, _, _, e3, l1, _⟩ := F.ex
  obtain ⟨_, _, _, _, _, _, _, _, _, e4, l2, _⟩ := G.ex
  rw [← z, l1] at l2
  have e : fd = gd := by
    injection Option.some.inj l2 with _ _ h _
    injection h
  have e5 := congrArg FuncData.name (e3.symm.trans (e.trans e4))
  exact n e5
section
variable {P : Program} {w : World} {K : PySem.W.Frag} {mg : Str → Option Value} {base : Heap} {CL CS CT CR CP CW aS aR fS fT fR fP : Addr}
def rdS (K : PySem.W.Frag) (CL CS CT CR CP fS fT fR fP : Addr) (f : Addr) : Option Sp := if f = fS then some (spRdSat K CL CS) else if f = fT then some (spRdSta K CL CT) else if f = fR then some (spRdRec K CL CR) else if f = fP then some (spRdPas K CL CP) else none
theorem held_of {x : Str} {ps : List Str} {sp : Sp} {k : Nat} {f : Addr} (D : DefOk P w K mg base CX0 k x ps sp) (h : mg x = some (.ref f)) : Held P w K mg base k f sp := by
  obtain ⟨g, fd, G, m, kp, b, _⟩ := D.ex
  rw [h] at m
  cases m
  exact ⟨fd, ps, G, kp, b⟩
def spThings (K : PySem.W.Frag) (CL CS CT CR CP : Addr) : Sp := fun vs H Q _ => ∃ (p : Addr) (as : List Addr) (W : WorldD), vs = [.ref p, .int W.horizon] ∧ SqL K H p (as.map V.ref) ∧ as.Nodup ∧ WorldOk W ∧ Paired (fun a l => LnAt CL H a l 0) as (restW W) ∧
  ∀ th l0 l1 l2 l3 H', SameA as H H' → Thg K CS CT CR CP H' th l0 l1 l2 l3 W.sats W.stas W.recs W.pass → Q (.ref th) H'
set_option maxHeartbeats 8000000 in
theorem d_read_things (T : TxtW K mg CL CS CT CR CP CW aS aR fS fT fR fP) (D_read_sort : DefOk P w K mg base CX0 3 "read_sort" ["line", "ahead", "things"] (spSort K CL))
    (D1 : DefOk P w K mg base CX0 5 "read_satellite" ["line", "horizon", "things"] (spRdSat K CL CS)) (D2 : DefOk P w K mg base CX0 5 "read_station" ["line", "_", "things"] (spRdSta K CL CT))
    (D3 : DefOk P w K mg base CX0 5 "read_recording" ["line", "horizon", "things"] (spRdRec K CL CR)) (D4 : DefOk P w K mg base CX0 5 "read_pass" ["line", "horizon", "things"] (spRdPas K CL CP))
    (n1 : fT ≠ fS) (n2 : fR ≠ fS) (n3 : fR ≠ fT) (n4 : fP ≠ fS) (n5 : fP ≠ fT) (n6 : fP ≠ fR)
    (D_Line_finish : MDef P w K mg base CX0 3 CL "finish" ["self"] [] (spFinish CL)) (A : At K mg "read_things" s_read_things ["lines", "horizon"]) : DefOk P w K mg base CX0 6 "read_things" ["lines", "horizon"] (spThings K CL CS CT CR CP) := by
  have B := T.L.B
  have HA : ∀ f sp, rdS K CL CS CT CR CP fS fT fR fP f = some sp → Held P w K mg base 5 f sp := fun f sp h => by
    unfold rdS at h
    by_cases c1 : f = fS
    · rw [if_pos c1] at h
      cases h
      rw [c1]
      exact held_of D1 T.r_satellite
    rw [if_neg c1] at h
    by_cases c2 : f = fT
    · rw [if_pos c2] at h
      cases h
      rw [c2]
      exact held_of D2 T.r_station
    rw [if_neg c2] at h
    by_cases c3 : f = fR
    · rw [if_pos c3] at h
      cases h
      rw [c3]
      exact held_of D3 T.r_recording
    rw [if_neg c3] at h
    by_cases c4 : f = fP
    · rw [if_pos c4] at h
      cases h
      rw [c4]
      exact held_of D4 T.r_pass
    rw [if_neg c4] at h
    cases h
  have S0 : rdS K CL CS CT CR CP fS fT fR fP fS = some (spRdSat K CL CS) := by unfold rdS; rw [if_pos rfl]
  have S1 : rdS K CL CS CT CR CP fS fT fR fP fT = some (spRdSta K CL CT) := by unfold rdS; rw [if_neg n1, if_pos rfl]
  have S2 : rdS K CL CS CT CR CP fS fT fR fP fR = some (spRdRec K CL CR) := by unfold rdS; rw [if_neg n2, if_neg n3, if_pos rfl]
  have S3 : rdS K CL CS CT CR CP fS fT fR fP fP = some (spRdPas K CL CP) := by unfold rdS; rw [if_neg n4, if_neg n5, if_neg n6, if_pos rfl]
  refine A.ok sc_read_things (fun vs H Q E h => ?_) (fun f cdv A outer s H vs Q E hr h => ?_)
  · obtain ⟨p, as, W, rfl, _⟩ := h
    rfl
  obtain ⟨p, as, W, rfl, hp, hnd, wok, hpr, q⟩ := h
  have hlen := paired_len hpr
  refine ⟨_, pss_cons (ps_set (i := 2) sc_read_things.nd rfl (Or.inl rfl) (pe_tup (pa_cons (pe_lst pa_nil) (pa_cons (pe_lst pa_nil) (pa_cons (pe_lst pa_nil) (pa_cons (pe_lst pa_nil) pa_nil))))))
  (pss_cons (ps_set (i := 3) sc_read_things.nd rfl (Or.inl rfl) pe_int)
  (pss_cons (ps_for PassesOwn.never rfl (pi_list (pv 0)) (pg_name (i := 4) sc_read_things.nd rfl (Or.inl rfl))
      (pss_cons (ps_set (i := 3) sc_read_things.nd rfl (Or.inl rfl) (pe_f D_read_sort (hr.mono (by omega)) pass0 (pa_cons (pv 4) (pa_cons (pv 3) (pa_cons (pv 2) pa_nil)))))
      (pss_cons (ps_set (i := 5) sc_read_things.nd rfl (Or.inl rfl) (pe_ix ix_tup (pe_ga T.g_READERS) (pv 3) (fun _ _ => rfl)))
      (pss_cons (ps_expr (pe_bm PySem.F.plainAttrs_list PySem.F.slot_list_append PySem.F.type_list_append mt_append (pe_ix ix_tup (pv 2) (pv 3) (fun _ _ => rfl)) (pa_cons (pe_callA (i := 5) (S := rdS K CL CS CT CR CP fS fT fR fP) HA (hr.mono (by omega)) rfl (Or.inl rfl) (pa_cons (pv 4) (pa_cons (pv 1) (pa_cons (pv 2) pa_nil)))) pa_nil)))
      (pss_one (ps_expr (pe_m0 D_Line_finish T.c_Line.cl (hr.mono (by omega)) pass0 (pv 4))))))))
  (pss_one (ps_ret (pv 2)))))
    , ?_⟩
  refine ⟨Nat.zero_le _, fun l0 h0 => ⟨Nat.zero_le _, fun l1 h1 => ⟨Nat.zero_le _, fun l2 h2 => ⟨Nat.zero_le _, fun l3 h3 => ⟨(by show 4 ≤ sizeLine; decide), fun th hth => ?_⟩⟩⟩⟩⟩
  have d01 : l0 ≠ l1 := fun z => by rw [← z, upd_same] at h1; cases h1
  have h1' : H l1 = none := by rw [upd_ne d01.symm] at h1; exact h1
  have d12 : l1 ≠ l2 := fun z => by rw [← z, upd_same] at h2; cases h2
  have d02 : l0 ≠ l2 := fun z => by rw [← z, upd_ne d01, upd_same] at h2; cases h2
  have h2' : H l2 = none := by rw [upd_ne d12.symm, upd_ne d02.symm] at h2; exact h2
  have d23 : l2 ≠ l3 := fun z => by rw [← z, upd_same] at h3; cases h3
  have d13 : l1 ≠ l3 := fun z => by rw [← z, upd_ne d12, upd_same] at h3; cases h3
  have d03 : l0 ≠ l3 := fun z => by rw [← z, upd_ne d02, upd_ne d01, upd_same] at h3; cases h3
  have h3' : H l3 = none := by rw [upd_ne d23.symm, upd_ne d13.symm, upd_ne d03.symm] at h3; exact h3
  have t3 : l3 ≠ th := fun z => by rw [← z, upd_same] at hth; cases hth
  have t2 : l2 ≠ th := fun z => by rw [← z, upd_ne d23, upd_same] at hth; cases hth
  have t1 : l1 ≠ th := fun z => by rw [← z, upd_ne d13, upd_ne d12, upd_same] at hth; cases hth
  have t0 : l0 ≠ th := fun z => by rw [← z, upd_ne d03, upd_ne d02, upd_ne d01, upd_same] at hth; cases hth
  have hth' : H th = none := by rw [upd_ne t3.symm, upd_ne t2.symm, upd_ne t1.symm, upd_ne t0.symm] at hth; exact hth
  have sS : Same H (upd (upd (upd (upd (upd H l0 (.lst [])) l1 (.lst [])) l2 (.lst [])) l3 (.lst [])) th (.tup [.ref l0, .ref l1, .ref l2, .ref l3])) := same_at hth' (same_at h3' (same_at h2' (same_at h1' (same_new h0 _) _) _) _) _
  refine ⟨_, rfl, p, rfl, ⟨_, sS.seq hp⟩, for_list (K := K) (a := p) (xs := as.map V.ref) (fun i σ H' => ∃ (k : Int) (y4 y5 : Option V), σ = [some (.ref p), some (.int W.horizon), some (.ref th), some (.int k), y4, y5] ∧ k ≤ (kindW W i : Int) ∧
      Thg K CS CT CR CP H' th l0 l1 l2 l3 (preS W i) (preT W i) (preR W i) (preP W i) ∧ (∀ j a l, i ≤ j → as[j]? = some a → (restW W)[j]? = some l → LnAt CL H' a l 0) ∧ SameA as H H') ⟨0, none, none, rfl, by omega, ?_, ?_, SameA.of sS⟩ (fun i σ H' _ hI => ?_) (fun i x σ H1 hx hI => ?_) (fun σ H1 hI => ?_)⟩
  · have e0 : preS W 0 = [] := rfl
    have e1 : preT W 0 = [] := by unfold preT; rw [Nat.zero_sub]; rfl
    have e2 : preR W 0 = [] := by unfold preR; rw [Nat.zero_sub, Nat.zero_sub]; rfl
    have e3 : preP W 0 = [] := by unfold preP; rw [Nat.zero_sub, Nat.zero_sub, Nat.zero_sub]; rfl
    rw [e0, e1, e2, e3]
    exact ⟨upd_same, d01, d02, d03, d12, d13, d23, ⟨[], by rw [upd_ne t0, upd_ne d03, upd_ne d02, upd_ne d01, upd_same], .nil⟩, ⟨[], by rw [upd_ne t1, upd_ne d13, upd_ne d12, upd_same], .nil⟩, ⟨[], by rw [upd_ne t2, upd_ne d23, upd_same], .nil⟩, ⟨[], by rw [upd_ne t3, upd_same], .nil⟩⟩
  · intro j a l _ ha hl
    obtain ⟨l', hl', hL⟩ := paired_at hpr ha
    rw [hl] at hl'
    cases hl'
    exact hL.same sS
  · obtain ⟨k, y4, y5, rfl, _, _, _, hs⟩ := hI
    rcases hp with (hp | ⟨o, hp⟩) | hp
    · exact .inl (.inl (hs _ _ (fun z => by
        obtain ⟨j, hj, ej⟩ := List.mem_iff_getElem.mp z
        obtain ⟨l, _, hL⟩ := paired_at hpr (List.getElem?_eq_getElem hj)
        rw [ej] at hL
        obtain ⟨dx, n, wl, c, g1, g2⟩ := hL.ex
        rw [hp] at g1
        cases g1) hp))
    · exact .inl (.inr ⟨o, hs _ _ (fun z => by
        obtain ⟨j, hj, ej⟩ := List.mem_iff_getElem.mp z
        obtain ⟨l, _, hL⟩ := paired_at hpr (List.getElem?_eq_getElem hj)
        rw [ej] at hL
        obtain ⟨dx, n, wl, c, g1, g2⟩ := hL.ex
        rw [hp] at g1
        cases g1) hp⟩)
    · exact .inr hp
  · obtain ⟨k, y4, y5, rfl, hk, hT, hLs, hs⟩ := hI
    rw [List.getElem?_map] at hx
    cases ha : as[i]? with
    | none => rw [ha] at hx; cases hx
    | some a =>
    rw [ha] at hx
    have ex : V.ref a = x := Option.some.inj hx
    subst ex
    have hmem : a ∈ as := List.mem_of_getElem? ha
    have hi : i < (restW W).length := by
      rw [← hlen]
      exact (List.getElem?_eq_some_iff.mp ha).1
    have far : ∀ j b, i + 1 ≤ j → as[j]? = some b → b ≠ a := fun j b hj hb z => by
      subst z
      obtain ⟨q1, e1⟩ := List.getElem?_eq_some_iff.mp ha
      obtain ⟨q2, e2⟩ := List.getElem?_eq_some_iff.mp hb
      have := (List.getElem_inj hnd).mp (e1.trans e2.symm)
      omega
    have neR : ∀ j l, (restW W)[j]? = some l → l ≠ [] := fun j l hl => by
      have hm : l ∈ restW W := List.mem_of_getElem? hl
      exact (linesW_ok wok l (List.mem_cons_of_mem _ hm)).1
    have nS := wok.nSats
    have nT := wok.nStas
    have nR := wok.nRecs
    have nP := wok.nPass
    have lS : (preS W i).length ≤ W.sats.length := by unfold preS; rw [List.length_take]; omega
    have lT : (preT W i).length ≤ W.stas.length := by unfold preT; rw [List.length_take]; omega
    have lR : (preR W i).length ≤ W.recs.length := by unfold preR; rw [List.length_take]; omega
    have lP : (preP W i).length ≤ W.pass.length := by unfold preP; rw [List.length_take]; omega
    have km := kindW_mono W i
    rcases restW_at W hi with ⟨s, hkd, hsm, hw, hat, e1, e2, e3, e4⟩ | ⟨s, hkd, hsm, hw, hat, e1, e2, e3, e4, eS⟩ | ⟨s, hkd, hsm, hw, hat, e1, e2, e3, e4, eS, eT⟩ | ⟨s, hkd, hsm, hw, hat, e1, e2, e3, e4, eS, eT⟩
    · have hL := hLs i a _ (Nat.le_refl _) ha hw
      obtain ⟨xs, ax, bx⟩ := hT.sats
      have lx := paired_len bx
      have hlt : (preS W i).length < W.sats.length := by
        have z := (List.getElem?_eq_some_iff.mp hat).1
        unfold preS
        rw [List.length_take]
        omega
      refine ⟨_, rfl, _, rfl, _, rfl, a, _, k, th, [l0, l1, l2, l3], l0, xs, 0, "satellite", 3, rfl, hL, rfl, rfl, by omega, hT.list, rfl, SqL.of ax, rfl, by omega, fun H2 s1 L1 => ?_⟩
      have hT1 := hT.sx hL s1
      refine ⟨_, rfl, aR, _, _, .ref fS, rfl, rfl, T.t_READERS _, atI_nat (j := 0) rfl, ?_⟩
      obtain ⟨dx0, n0, wl0, c0, g1, g2⟩ := hL.ex
      have ax1 : H2 l0 = some (.lst xs) := s1 _ _ (ne_of ax g1 (fun z => nomatch z)) ax
      refine ⟨_, rfl, _, rfl, th, _, _, .ref l0, rfl, rfl, hT1.list, atI_nat (j := 0) rfl, .inl ⟨rfl, _, SqL.of ax1⟩, fS, _, rfl, S0, _, rfl, _, rfl, _, rfl, ?_⟩
      refine ⟨a, W.horizon, th, s, _, rfl, L1, (hT.n0 T (by omega)).sameX hL s1, (fresh_name (f := (·.name)) wok.dSats hat), wok.sats s hsm, wok.horizon.1, wok.horizon.2, fun b H3 nb s2 L2 o2 => ?_⟩
      have hT2 := hT1.sx L1 s2
      obtain ⟨dx1, n1', wl1, c1, g3, g4⟩ := L1.ex
      have ax2 : H3 l0 = some (.lst xs) := s2 _ _ (ne_of ax1 g3 (fun z => nomatch z)) ax1
      refine ⟨l0, xs, .ref b, rfl, rfl, ax2, small1000 (by omega), ?_⟩
      have rf := refs_sat bx
      have L3 := L2.up (o := .lst (xs ++ [.ref b])) (neR i _ hw) ax2 rf
      obtain ⟨dx2, fs2, g5, z5⟩ := LnAt.no L3 (m := "finish") (by decide +kernel) (by decide +kernel) (by decide +kernel) (by decide +kernel)
      refine ⟨_, rfl, a, _, _, rfl, g5, z5, a, _, rfl, L3, ?_⟩
      refine ⟨(0 : Int), some (.ref a), some (.ref fS), rfl, by omega, ?_, fun j d l hj hd hl => ?_, SameA.new h0 ((hs.trans (SameA.ofX s1 hmem)).trans (SameA.ofX s2 hmem))⟩
      · rw [e1, e2, e3, e4]
        exact hT2.push0 ax2 o2
      · have nd := far j d hj hd
        exact (((hLs j d l (by omega) hd hl).sx hL nd s1).sx L1 nd s2).up (neR j l hl) ax2 rf
    · have hL := hLs i a _ (Nat.le_refl _) ha hw
      obtain ⟨xs, ax, bx⟩ := hT.stas
      have lx := paired_len bx
      have hlt : (preT W i).length < W.stas.length := by
        have z := (List.getElem?_eq_some_iff.mp hat).1
        unfold preT
        rw [List.length_take]
        omega
      refine ⟨_, rfl, _, rfl, _, rfl, a, _, k, th, [l0, l1, l2, l3], l1, xs, 1, "station", 3, rfl, hL, rfl, rfl, by omega, hT.list, rfl, SqL.of ax, rfl, by omega, fun H2 s1 L1 => ?_⟩
      have hT1 := hT.sx hL s1
      refine ⟨_, rfl, aR, _, _, .ref fT, rfl, rfl, T.t_READERS _, atI_nat (j := 1) rfl, ?_⟩
      obtain ⟨dx0, n0, wl0, c0, g1, g2⟩ := hL.ex
      have ax1 : H2 l1 = some (.lst xs) := s1 _ _ (ne_of ax g1 (fun z => nomatch z)) ax
      refine ⟨_, rfl, _, rfl, th, _, _, .ref l1, rfl, rfl, hT1.list, atI_nat (j := 1) rfl, .inl ⟨rfl, _, SqL.of ax1⟩, fT, _, rfl, S1, _, rfl, _, rfl, _, rfl, ?_⟩
      refine ⟨a, W.horizon, th, s, _, rfl, L1, (hT.n1 T (by omega)).sameX hL s1, (fresh_name (f := (·.name)) wok.dStas hat), wok.stas s hsm, fun b H3 nb s2 L2 o2 => ?_⟩
      have hT2 := hT1.sx L1 s2
      obtain ⟨dx1, n1', wl1, c1, g3, g4⟩ := L1.ex
      have ax2 : H3 l1 = some (.lst xs) := s2 _ _ (ne_of ax1 g3 (fun z => nomatch z)) ax1
      refine ⟨l1, xs, .ref b, rfl, rfl, ax2, small1000 (by omega), ?_⟩
      have rf := refs_sta bx
      have L3 := L2.up (o := .lst (xs ++ [.ref b])) (neR i _ hw) ax2 rf
      obtain ⟨dx2, fs2, g5, z5⟩ := LnAt.no L3 (m := "finish") (by decide +kernel) (by decide +kernel) (by decide +kernel) (by decide +kernel)
      refine ⟨_, rfl, a, _, _, rfl, g5, z5, a, _, rfl, L3, ?_⟩
      refine ⟨(1 : Int), some (.ref a), some (.ref fT), rfl, by omega, ?_, fun j d l hj hd hl => ?_, SameA.new h1' ((hs.trans (SameA.ofX s1 hmem)).trans (SameA.ofX s2 hmem))⟩
      · rw [e1, e2, e3, e4]
        exact hT2.push1 ax2 o2
      · have nd := far j d hj hd
        exact (((hLs j d l (by omega) hd hl).sx hL nd s1).sx L1 nd s2).up (neR j l hl) ax2 rf
    · have hL := hLs i a _ (Nat.le_refl _) ha hw
      obtain ⟨xs, ax, bx⟩ := hT.recs
      have lx := paired_len bx
      have hlt : (preR W i).length < W.recs.length := by
        have z := (List.getElem?_eq_some_iff.mp hat).1
        unfold preR
        rw [List.length_take]
        omega
      refine ⟨_, rfl, _, rfl, _, rfl, a, _, k, th, [l0, l1, l2, l3], l2, xs, 2, "recording", 10, rfl, hL, rfl, rfl, by omega, hT.list, rfl, SqL.of ax, rfl, by omega, fun H2 s1 L1 => ?_⟩
      have hT1 := hT.sx hL s1
      refine ⟨_, rfl, aR, _, _, .ref fR, rfl, rfl, T.t_READERS _, atI_nat (j := 2) rfl, ?_⟩
      obtain ⟨dx0, n0, wl0, c0, g1, g2⟩ := hL.ex
      have ax1 : H2 l2 = some (.lst xs) := s1 _ _ (ne_of ax g1 (fun z => nomatch z)) ax
      refine ⟨_, rfl, _, rfl, th, _, _, .ref l2, rfl, rfl, hT1.list, atI_nat (j := 2) rfl, .inl ⟨rfl, _, SqL.of ax1⟩, fR, _, rfl, S2, _, rfl, _, rfl, _, rfl, ?_⟩
      refine ⟨a, th, W, s, _, rfl, L1, (hT.n2 T (by omega)).sameX hL s1, (by rw [← eS]; exact (hT.n0 T (by omega)).sameX hL s1), (fresh_name (f := (·.name)) wok.dRecs hat), wok, wok.recs s hsm, fun b H3 nb s2 L2 o2 => ?_⟩
      have hT2 := hT1.sx L1 s2
      obtain ⟨dx1, n1', wl1, c1, g3, g4⟩ := L1.ex
      have ax2 : H3 l2 = some (.lst xs) := s2 _ _ (ne_of ax1 g3 (fun z => nomatch z)) ax1
      refine ⟨l2, xs, .ref b, rfl, rfl, ax2, small1000 (by omega), ?_⟩
      have rf := refs_rec bx
      have L3 := L2.up (o := .lst (xs ++ [.ref b])) (neR i _ hw) ax2 rf
      obtain ⟨dx2, fs2, g5, z5⟩ := LnAt.no L3 (m := "finish") (by decide +kernel) (by decide +kernel) (by decide +kernel) (by decide +kernel)
      refine ⟨_, rfl, a, _, _, rfl, g5, z5, a, _, rfl, L3, ?_⟩
      refine ⟨(2 : Int), some (.ref a), some (.ref fR), rfl, by omega, ?_, fun j d l hj hd hl => ?_, SameA.new h2' ((hs.trans (SameA.ofX s1 hmem)).trans (SameA.ofX s2 hmem))⟩
      · rw [e1, e2, e3, e4]
        exact hT2.push2 ax2 o2
      · have nd := far j d hj hd
        exact (((hLs j d l (by omega) hd hl).sx hL nd s1).sx L1 nd s2).up (neR j l hl) ax2 rf
    · have hL := hLs i a _ (Nat.le_refl _) ha hw
      obtain ⟨xs, ax, bx⟩ := hT.pass
      have lx := paired_len bx
      have hlt : (preP W i).length < W.pass.length := by
        have z := (List.getElem?_eq_some_iff.mp hat).1
        unfold preP
        rw [List.length_take]
        omega
      refine ⟨_, rfl, _, rfl, _, rfl, a, _, k, th, [l0, l1, l2, l3], l3, xs, 3, "pass", 10, rfl, hL, rfl, rfl, by omega, hT.list, rfl, SqL.of ax, rfl, by omega, fun H2 s1 L1 => ?_⟩
      have hT1 := hT.sx hL s1
      refine ⟨_, rfl, aR, _, _, .ref fP, rfl, rfl, T.t_READERS _, atI_nat (j := 3) rfl, ?_⟩
      obtain ⟨dx0, n0, wl0, c0, g1, g2⟩ := hL.ex
      have ax1 : H2 l3 = some (.lst xs) := s1 _ _ (ne_of ax g1 (fun z => nomatch z)) ax
      refine ⟨_, rfl, _, rfl, th, _, _, .ref l3, rfl, rfl, hT1.list, atI_nat (j := 3) rfl, .inl ⟨rfl, _, SqL.of ax1⟩, fP, _, rfl, S3, _, rfl, _, rfl, _, rfl, ?_⟩
      refine ⟨a, th, W, s, _, rfl, L1, (hT.n3 T (by omega)).sameX hL s1, (by rw [← eS]; exact (hT.n0 T (by omega)).sameX hL s1), (by rw [← eT]; exact (hT.n1 T (by omega)).sameX hL s1), (fresh_name (f := (·.name)) wok.dPass hat), wok, wok.pass s hsm, fun b H3 nb s2 L2 o2 => ?_⟩
      have hT2 := hT1.sx L1 s2
      obtain ⟨dx1, n1', wl1, c1, g3, g4⟩ := L1.ex
      have ax2 : H3 l3 = some (.lst xs) := s2 _ _ (ne_of ax1 g3 (fun z => nomatch z)) ax1
      refine ⟨l3, xs, .ref b, rfl, rfl, ax2, small1000 (by omega), ?_⟩
      have rf := refs_pas bx
      have L3 := L2.up (o := .lst (xs ++ [.ref b])) (neR i _ hw) ax2 rf
      obtain ⟨dx2, fs2, g5, z5⟩ := LnAt.no L3 (m := "finish") (by decide +kernel) (by decide +kernel) (by decide +kernel) (by decide +kernel)
      refine ⟨_, rfl, a, _, _, rfl, g5, z5, a, _, rfl, L3, ?_⟩
      refine ⟨(3 : Int), some (.ref a), some (.ref fP), rfl, by omega, ?_, fun j d l hj hd hl => ?_, SameA.new h3' ((hs.trans (SameA.ofX s1 hmem)).trans (SameA.ofX s2 hmem))⟩
      · rw [e1, e2, e3, e4]
        exact hT2.push3 ax2 o2
      · have nd := far j d hj hd
        exact (((hLs j d l (by omega) hd hl).sx hL nd s1).sx L1 nd s2).up (neR j l hl) ax2 rf
  · obtain ⟨k, y4, y5, rfl, hk, hT, hLs, hs⟩ := hI
    rw [List.length_map, hlen] at hT
    have f1 : preS W (restW W).length = W.sats := List.take_of_length_le (by rw [restW_len]; omega)
    have f2 : preT W (restW W).length = W.stas := List.take_of_length_le (by rw [restW_len]; omega)
    have f3 : preR W (restW W).length = W.recs := List.take_of_length_le (by rw [restW_len]; omega)
    have f4 : preP W (restW W).length = W.pass := List.take_of_length_le (by rw [restW_len]; omega)
    rw [f1, f2, f3, f4] at hT
    exact ⟨_, rfl, q th l0 l1 l2 l3 H1 hs hT⟩
end
end DP
namespace DP
open PySem PySem.Spec PyProof.Rows L2
/-- a staticmethod of a class -/
structure SMet (K : PySem.W.Frag) (C : Addr) (m : Str) (g : Addr) : Prop where
  ex : ∃ p rest, PySem.W.findCls K (.ref C) (.type "type") m = some (.get (.builtin "staticmethod.__get__") (.ref p) .none (.ref C)) ∧ PySem.W.recIn K p "staticmethod" = some (.ref g :: rest)
structure SAt (K : PySem.W.Frag) (C : Addr) (m qual : Str) (st : Stmt) (ps : List Str) : Prop where
  ex : ∃ f fd, Fun K m qual st f fd ∧ SMet K C m f ∧ Binds K fd ps []
structure SDef (P : Program) (w : World) (K : PySem.W.Frag) (mg : Str → Option Value) (base : Heap) (CX : CXT) (k : Nat) (C : Addr) (m : Str) (ps : List Str) (sp : Sp) : Prop where
  ex : ∃ f fd, FnOk P w K mg base CX k f fd ps sp ∧ SMet K C m f ∧ PySem.W.keepIn K (.ref f) = true ∧ Binds K fd ps []
def tSMeth (C : Addr) (sp : Sp) (E : XK) (ta : TE) (t : TA) : TE := fun σ H Q => ta σ H fun x H1 => x = .ref C ∧ t σ H1 fun vs H2 => sp vs H2 Q E
theorem pe_smeth {X : Cx} {CX : CXT} {k : Nat} {C : Addr} {m : Str} {ps : List Str} {sp : Sp} {E : XK} {o e : Expr} {es : List Expr} {ta : TE} {t : TA} {pos apos : Pos} {pl : Sem Bool}
    (D : SDef X.prog X.w X.K X.mg X.base CX k C m ps sp) (rd : ClX.CRead X.K C (.type "type")) (hr : Room k X.A) (hx : Passes CX X E) (he : PE X o ta) (ha : PA X (e :: es) t)
    (hst : starEach (e :: es) X.env = (false, eval e X.env) :: starEach es X.env := by rfl) (hpl : (backTo pos (starEach es X.env)).any (·.1) = false := by rfl)
    (ht : eval (.Call (.Attribute o m apos) (e :: es) [] pos) X.env = (do
      let ov ← eval o X.env
      standAt apos.atName
      let (f, first) ← holding [ov] (getMethod ov m pl)
      callWith pos f first (backTo pos (starEach (e :: es) X.env)) (backToKw pos (keywordEach [] X.env))) := by rfl) :
    PE X (.Call (.Attribute o m apos) (e :: es) [] pos) (tSMeth C sp E ta t) := by
  obtain ⟨f, fd, G, ⟨p, rest, e1, e2⟩, kp, b⟩ := D.ex
  refine ⟨fun pins s σ H Q I h => ?_⟩
  refine PySem.W.methodCall_KW (pl := pl) (thn (he.run pins s σ H _ I h) fun u s1 ⟨x, H1, I1, rx, ex, q⟩ => ?_) ht
  subst ex
  obtain rfl : u = Value.ref C := rx
  have I2 := I1.tok (s1.toks + 1)
  refine PySem.W.method_cls I1.kIn rd.ga (PySem.W.cls_bind I1.kIn rd.rd e1 (wpAny_call (PySem.W.sm_get (s := { s1 with toks := s1.toks + 1 }) I2.kIn e2 (PySem.W.handed_on (handed_of (v := .ref f) rfl) ?_))))
  refine PySem.W.callWith_K (h₀ := X.base) I.ok.mod.kin kp (thn (ha.run pos pins _ σ H1 _ I2 q) fun us s3 ⟨vs, H2, I3, r, q2⟩ => ⟨I3.kIn, ?_⟩) hst hpl
  rw [← List.append_nil vs] at q2
  exact run_fn (dvs := []) (ds := []) G hr b .nil hx I3 r q2
section
variable {P : Program} {w : World} {K : PySem.W.Frag} {mg : Str → Option Value} {base : Heap} {C : Addr} {m qual : Str} {st : Stmt} {ps N : List Str} {k : Nat} {sp : Sp}
theorem SAt.ok (F : SAt K C m qual st ps) (S : FnScope N ps (defScope st)) (len : ∀ vs H Q E, sp vs H Q E → vs.length = ps.length)
    (hbody : ∀ (f : Addr) (cdv : Value) (A : Around) (outer : List Env) (s : Shared) (H : Hp) (vs : List V) (Q : VK) (E : XK), Room k (A.deeper (envOfC qual (defScope st) s.heap.objs.size f cdv)) → sp vs H Q E →
      ∃ t, PSs (cxOf CX0 P w K mg base N qual (defScope st) f cdv A outer s H E).nox (defBody st) t ∧ t { nx := fun _ H' => Q .non H', rt := Q } (start N vs) H) : SDef P w K mg base CX0 (k + 1) C m ps sp := by
  obtain ⟨f, fd, G, M, b⟩ := F.ex
  exact ⟨f, fd, G.ok S len (fun cdv A outer s H vs Q E hr h => hbody f cdv A outer s H vs Q E hr h), M, G.kp, b⟩
end
def worF (u : Str) (h : Int) (t0 t1 t2 t3 : Addr) : List (Str × V) := [("text", .str u), ("horizon", .int h), ("satellites", .ref t0), ("stations", .ref t1), ("recordings", .ref t2), ("passes", .ref t3)]
structure WorldAt (K : PySem.W.Frag) (CS CT CR CP CW : Addr) (H : Hp) (a : Addr) (W : WorldD) : Prop where
  ex : ∃ dx t0 t1 t2 t3 x0 x1 x2 x3, H a = some (.ins CW dx (worF (textW W) W.horizon t0 t1 t2 t3)) ∧ SqT K H t0 x0 ∧ Paired (SatAt K CS H) x0 W.sats ∧ SqT K H t1 x1 ∧ Paired (StaAt CT H) x1 W.stas ∧
    SqT K H t2 x2 ∧ Paired (RecAt CR H) x2 W.recs ∧ SqT K H t3 x3 ∧ Paired (PasAt K CP H) x3 W.pass
theorem WorldAt.same {K : PySem.W.Frag} {CS CT CR CP CW : Addr} {H H' : Hp} {a : Addr} {W : WorldD} (h : WorldAt K CS CT CR CP CW H a W) (z : Same H H') : WorldAt K CS CT CR CP CW H' a W := by
  obtain ⟨dx, t0, t1, t2, t3, x0, x1, x2, x3, g, a0, b0, a1, b1, a2, b2, a3, b3⟩ := h.ex
  exact ⟨dx, t0, t1, t2, t3, x0, x1, x2, x3, z _ _ g, Same.tup z a0, Paired.mapP b0 fun _ _ y => y.same z, Same.tup z a1, Paired.mapP b1 fun _ _ y => y.same z, Same.tup z a2, Paired.mapP b2 fun _ _ y => y.same z, Same.tup z a3, Paired.mapP b3 fun _ _ y => y.same z⟩
section
variable {K : PySem.W.Frag} {CS CT CR CP C : Addr} {H H' : Hp} {x dx th l0 l1 l2 l3 : Addr} {y : V} {S : List SatD} {T : List StaD} {R : List RecD} {P : List PasD}
theorem ne_bare {b D dy : Addr} {fs : List (Str × V)} (hx : H x = some (.ins C dx [])) (hb : H b = some (.ins D dy fs)) (n : fs.length ≠ 0) : b ≠ x := ins_ne hb hx n
/-- the things stay where a new object is filled -/
theorem Thg.bare (h : Thg K CS CT CR CP H th l0 l1 l2 l3 S T R P) (hx : H x = some (.ins C dx [])) (z : SameX x H H') : Thg K CS CT CR CP H' th l0 l1 l2 l3 S T R P := by
  obtain ⟨x0, a0, b0⟩ := h.sats
  obtain ⟨x1, a1, b1⟩ := h.stas
  obtain ⟨x2, a2, b2⟩ := h.recs
  obtain ⟨x3, a3, b3⟩ := h.pass
  refine ⟨z _ _ (ne_of h.tup hx (fun z => nomatch z)) h.tup, h.d01, h.d02, h.d03, h.d12, h.d13, h.d23, ⟨x0, z _ _ (ne_of a0 hx (fun z => nomatch z)) a0, Paired.mapP b0 fun _ _ q => ?_⟩, ⟨x1, z _ _ (ne_of a1 hx (fun z => nomatch z)) a1, Paired.mapP b1 fun _ _ q => ?_⟩,
    ⟨x2, z _ _ (ne_of a2 hx (fun z => nomatch z)) a2, Paired.mapP b2 fun _ _ q => ?_⟩, ⟨x3, z _ _ (ne_of a3 hx (fun z => nomatch z)) a3, Paired.mapP b3 fun _ _ q => ?_⟩⟩
  · obtain ⟨b, dx, t, ls, h1, h2, h3, h4⟩ := q
    exact ⟨b, dx, t, ls, h1, z _ _ (ne_bare hx h2 (by show 8 ≠ 0; decide)) h2, z.sqT hx h3, z.spans hx h4⟩
  · obtain ⟨b, dx, h1, h2⟩ := q
    exact ⟨b, dx, h1, z _ _ (ne_bare hx h2 (by show 3 ≠ 0; decide)) h2⟩
  · obtain ⟨b, dx, h1, h2⟩ := q
    exact ⟨b, dx, h1, z _ _ (ne_bare hx h2 (by show 10 ≠ 0; decide)) h2⟩
  · obtain ⟨b, dx, t, h1, h2, h3⟩ := q
    exact ⟨b, dx, t, h1, z _ _ (ne_bare hx h2 (by show 7 ≠ 0; decide)) h2, z.sqT hx h3⟩
end
section
variable {P : Program} {w : World} {K : PySem.W.Frag} {mg : Str → Option Value} {base : Heap} {CL CS CT CR CP CW aS aR fS fT fR fP : Addr}
def spWInit (K : PySem.W.Frag) (CS CT CR CP CW : Addr) : Sp := fun vs H Q _ => ∃ (x dx : Addr) (W : WorldD) (th l0 l1 l2 l3 : Addr), vs = [.ref x, .str (textW W), .int W.horizon, .ref th] ∧ H x = some (.ins CW dx []) ∧
  Thg K CS CT CR CP H th l0 l1 l2 l3 W.sats W.stas W.recs W.pass ∧ ∀ H', SameX x H H' → WorldAt K CS CT CR CP CW H' x W → Q .non H'
theorem dI_World (T : TxtW K mg CL CS CT CR CP CW aS aR fS fT fR fP) (A : MAt K CW "__init__" "World.__init__" s_World___init__ ["self", "text", "horizon", "things"]) : MDef P w K mg base CX0 1 CW "__init__" ["self", "text", "horizon", "things"] [] (spWInit K CS CT CR CP CW) := by
  have B := T.L.B
  refine A.ok sc_World___init__ (fun vs H Q E h => ?_) (fun f cdv A outer s H vs Q E hr h => ?_)
  · obtain ⟨x, dx, W, th, l0, l1, l2, l3, rfl, _⟩ := h
    rfl
  obtain ⟨x, dx, W, th, l0, l1, l2, l3, rfl, hx, hT, q⟩ := h
  refine ⟨_, pss_cons (ps_asg (pv 3) (pg_tup (by rfl) (pgs_cons (pg_name (i := 4) sc_World___init__.nd rfl (Or.inl rfl)) (pgs_cons (pg_name (i := 5) sc_World___init__.nd rfl (Or.inl rfl)) (pgs_cons (pg_name (i := 6) sc_World___init__.nd rfl (Or.inl rfl)) (pgs_cons (pg_name (i := 7) sc_World___init__.nd rfl (Or.inl rfl)) (pgs_nil)))))))
  (pss_cons (ps_fld (pv 0) (pv 1) rfl)
  (pss_cons (ps_fld (pv 0) (pv 2) rfl)
  (pss_cons (ps_fld (pv 0) (pe_callTy (call_tuple_of) (by rfl) B.tuple (by decide +kernel) (pa_cons (pv 4) pa_nil)) rfl)
  (pss_cons (ps_fld (pv 0) (pe_callTy (call_tuple_of) (by rfl) B.tuple (by decide +kernel) (pa_cons (pv 5) pa_nil)) rfl)
  (pss_cons (ps_fld (pv 0) (pe_callTy (call_tuple_of) (by rfl) B.tuple (by decide +kernel) (pa_cons (pv 6) pa_nil)) rfl)
  (pss_one (ps_fld (pv 0) (pe_callTy (call_tuple_of) (by rfl) B.tuple (by decide +kernel) (pa_cons (pv 7) pa_nil)) rfl)))))))
    , ?_⟩
  have cl := T.c_World.cl
  refine ⟨_, rfl, th, _, rfl, SqT.of hT.tup, rfl, _, _, rfl, _, _, rfl, _, _, rfl, _, _, rfl, rfl, ?_⟩
  refine ⟨_, rfl, _, rfl, x, CW, dx, _, rfl, hx, cl, T.n_World_text, (by show 0 < 1000; decide), ?_⟩
  rw [put_nil]
  refine ⟨_, rfl, _, rfl, x, CW, dx, _, rfl, upd_same, cl, T.n_World_horizon, (by show 1 < 1000; decide), ?_⟩
  rw [upd_upd, put_miss (by decide +kernel), put_nil]
  have z1 : SameX x H (upd H x (.ins CW dx [("text", .str (textW W)), ("horizon", .int W.horizon)])) := SameX.upd
  obtain ⟨x0, a0, b0⟩ := (hT.bare hx z1).sats
  refine ⟨_, rfl, l0, x0, rfl, .inl ⟨SqL.of a0, fun t0 ht0 => ?_⟩⟩
  have e0 : x ≠ t0 := fun z => by rw [← z, upd_same] at ht0; cases ht0
  refine ⟨_, rfl, x, CW, dx, _, rfl, (upd_ne e0).trans upd_same, cl, T.n_World_satellites, (by show 2 < 1000; decide), ?_⟩
  rw [put_miss (by decide +kernel), put_miss (by decide +kernel), put_nil]
  have z2 : SameX x H (upd (upd (upd H x (.ins CW dx [("text", .str (textW W)), ("horizon", .int W.horizon)])) t0 (.tup x0)) x (.ins CW dx [("text", .str (textW W)), ("horizon", .int W.horizon), ("satellites", .ref t0)])) := (z1.trans (SameX.of (same_new ht0 _))).trans SameX.upd
  generalize hH2 : (upd (upd (upd H x (.ins CW dx [("text", .str (textW W)), ("horizon", .int W.horizon)])) t0 (.tup x0)) x (.ins CW dx [("text", .str (textW W)), ("horizon", .int W.horizon), ("satellites", .ref t0)])) = H2 at z2
  have g2 : H2 x = some (.ins CW dx [("text", .str (textW W)), ("horizon", .int W.horizon), ("satellites", .ref t0)]) := by rw [← hH2, upd_same]
  have k0 : H2 t0 = some (.tup x0) := by rw [← hH2, upd_ne e0.symm, upd_same]
  obtain ⟨x1, a1, b1⟩ := (hT.bare hx z2).stas
  refine ⟨_, rfl, l1, x1, rfl, .inl ⟨SqL.of a1, fun t1 ht1 => ?_⟩⟩
  have e1 : x ≠ t1 := ne_of_none g2 ht1
  refine ⟨_, rfl, x, CW, dx, _, rfl, (upd_ne e1).trans g2, cl, T.n_World_stations, (by show 3 < 1000; decide), ?_⟩
  rw [put_miss (by decide +kernel), put_miss (by decide +kernel), put_miss (by decide +kernel), put_nil]
  have z3 : SameX x H2 (upd (upd H2 t1 (.tup x1)) x (.ins CW dx [("text", .str (textW W)), ("horizon", .int W.horizon), ("satellites", .ref t0), ("stations", .ref t1)])) := (SameX.of (same_new ht1 _)).trans SameX.upd
  generalize hH3 : (upd (upd H2 t1 (.tup x1)) x (.ins CW dx [("text", .str (textW W)), ("horizon", .int W.horizon), ("satellites", .ref t0), ("stations", .ref t1)])) = H3 at z3
  have g3 : H3 x = some (.ins CW dx [("text", .str (textW W)), ("horizon", .int W.horizon), ("satellites", .ref t0), ("stations", .ref t1)]) := by rw [← hH3, upd_same]
  have k1 : H3 t1 = some (.tup x1) := by rw [← hH3, upd_ne e1.symm, upd_same]
  obtain ⟨x2, a2, b2⟩ := (hT.bare hx (z2.trans z3)).recs
  refine ⟨_, rfl, l2, x2, rfl, .inl ⟨SqL.of a2, fun t2 ht2 => ?_⟩⟩
  have e2 : x ≠ t2 := ne_of_none g3 ht2
  refine ⟨_, rfl, x, CW, dx, _, rfl, (upd_ne e2).trans g3, cl, T.n_World_recordings, (by show 4 < 1000; decide), ?_⟩
  rw [put_miss (by decide +kernel), put_miss (by decide +kernel), put_miss (by decide +kernel), put_miss (by decide +kernel), put_nil]
  have z4 : SameX x H3 (upd (upd H3 t2 (.tup x2)) x (.ins CW dx [("text", .str (textW W)), ("horizon", .int W.horizon), ("satellites", .ref t0), ("stations", .ref t1), ("recordings", .ref t2)])) := (SameX.of (same_new ht2 _)).trans SameX.upd
  generalize hH4 : (upd (upd H3 t2 (.tup x2)) x (.ins CW dx [("text", .str (textW W)), ("horizon", .int W.horizon), ("satellites", .ref t0), ("stations", .ref t1), ("recordings", .ref t2)])) = H4 at z4
  have g4 : H4 x = some (.ins CW dx [("text", .str (textW W)), ("horizon", .int W.horizon), ("satellites", .ref t0), ("stations", .ref t1), ("recordings", .ref t2)]) := by rw [← hH4, upd_same]
  have k2 : H4 t2 = some (.tup x2) := by rw [← hH4, upd_ne e2.symm, upd_same]
  obtain ⟨x3, a3, b3⟩ := (hT.bare hx ((z2.trans z3).trans z4)).pass
  refine ⟨_, rfl, l3, x3, rfl, .inl ⟨SqL.of a3, fun t3 ht3 => ?_⟩⟩
  have e3 : x ≠ t3 := ne_of_none g4 ht3
  refine ⟨_, rfl, x, CW, dx, _, rfl, (upd_ne e3).trans g4, cl, T.n_World_passes, (by show 5 < 1000; decide), ?_⟩
  rw [put_miss (by decide +kernel), put_miss (by decide +kernel), put_miss (by decide +kernel), put_miss (by decide +kernel), put_miss (by decide +kernel), put_nil]
  have z5 : SameX x H4 (upd (upd H4 t3 (.tup x3)) x (.ins CW dx (worF (textW W) W.horizon t0 t1 t2 t3))) := (SameX.of (same_new ht3 _)).trans SameX.upd
  have zz := (((z2.trans z3).trans z4).trans z5)
  have hTT := hT.bare hx zz
  have c0 : ∀ {y0 : List V}, Paired (SatAt K CS H) y0 W.sats → True := fun _ => True.intro
  obtain ⟨y0, q0, r0⟩ := hT.sats
  obtain ⟨y1, q1, r1⟩ := hT.stas
  obtain ⟨y2, q2, r2⟩ := hT.recs
  obtain ⟨y3, q3, r3⟩ := hT.pass
  obtain ⟨w0, u0, v0⟩ := hTT.sats
  obtain ⟨w1, u1, v1⟩ := hTT.stas
  obtain ⟨w2, u2, v2⟩ := hTT.recs
  obtain ⟨w3, u3, v3⟩ := hTT.pass
  have n0 : l0 ≠ x := ne_of q0 hx (fun z => nomatch z)
  have n1 : l1 ≠ x := ne_of q1 hx (fun z => nomatch z)
  have n2 : l2 ≠ x := ne_of q2 hx (fun z => nomatch z)
  have n3 : l3 ≠ x := ne_of q3 hx (fun z => nomatch z)
  have j0 : w0 = x0 := HO.lst.inj (Option.some.inj (u0.symm.trans ((((z2.trans z3).trans z4).trans z5) _ _ n0 q0 |>.trans (by rw [← (z1 _ _ n0 q0).symm.trans a0]))))
  have j1 : w1 = x1 := HO.lst.inj (Option.some.inj (u1.symm.trans ((((z2.trans z3).trans z4).trans z5) _ _ n1 q1 |>.trans (by rw [← (z2 _ _ n1 q1).symm.trans a1]))))
  have j2 : w2 = x2 := HO.lst.inj (Option.some.inj (u2.symm.trans ((((z2.trans z3).trans z4).trans z5) _ _ n2 q2 |>.trans (by rw [← ((z2.trans z3) _ _ n2 q2).symm.trans a2]))))
  have j3 : w3 = x3 := HO.lst.inj (Option.some.inj (u3.symm.trans ((((z2.trans z3).trans z4).trans z5) _ _ n3 q3 |>.trans (by rw [← (((z2.trans z3).trans z4) _ _ n3 q3).symm.trans a3]))))
  subst j0 j1 j2 j3
  exact q _ zz ⟨dx, t0, t1, t2, t3, w0, w1, w2, w3, upd_same, SqT.of (z5 _ _ e0.symm (z4 _ _ e0.symm (z3 _ _ e0.symm k0))), v0, SqT.of (z5 _ _ e1.symm (z4 _ _ e1.symm k1)), v1, SqT.of (z5 _ _ e2.symm k2), v2, SqT.of (by rw [upd_ne e3.symm, upd_same]), v3⟩
end
end DP
namespace DP
open PySem PySem.Spec PyProof.Rows L2
section
variable {P : Program} {w : World} {K : PySem.W.Frag} {mg : Str → Option Value} {base : Heap} {CL CS CT CR CP CW aS aR fS fT fR fP : Addr}
def spParse (K : PySem.W.Frag) (CS CT CR CP CW : Addr) : Sp := fun vs H Q _ => ∃ W : WorldD, vs = [.str (textW W)] ∧ WorldOk W ∧ ∀ a H', H a = none → Same H H' → WorldAt K CS CT CR CP CW H' a W → Q (.ref a) H'
theorem d_parse (T : TxtW K mg CL CS CT CR CP CW aS aR fS fT fR fP) (D_lines_of : DefOk P w K mg base CX0 3 "lines_of" ["text"] (spLines CL)) (D_Line_read_field : MDef P w K mg base CX0 4 CL "read_field" ["self", "word", "least", "most"] [] (spField CL))
    (D_Line_finish : MDef P w K mg base CX0 3 CL "finish" ["self"] [] (spFinish CL)) (D_read_things : DefOk P w K mg base CX0 6 "read_things" ["lines", "horizon"] (spThings K CL CS CT CR CP))
    (DI_World : MDef P w K mg base CX0 1 CW "__init__" ["self", "text", "horizon", "things"] [] (spWInit K CS CT CR CP CW)) (A : SAt K CW "parse" "World.parse" s_World_parse ["text"]) : SDef P w K mg base CX0 7 CW "parse" ["text"] (spParse K CS CT CR CP CW) := by
  have B := T.L.B
  refine A.ok sc_World_parse (fun vs H Q E h => ?_) (fun f cdv A outer s H vs Q E hr h => ?_)
  · obtain ⟨W, rfl, _⟩ := h
    rfl
  obtain ⟨W, rfl, wok, q⟩ := h
  refine ⟨_, pss_cons (ps_set (i := 1) sc_World_parse.nd rfl (Or.inl rfl) (pe_f D_lines_of (hr.mono (by omega)) pass0 (pa_cons (pv 0) pa_nil)))
  (pss_cons (ps_if (pt_cmpR op_eq (pe_callB (call_len_seq) (by rfl) B.len (by decide +kernel) (pa_cons (pv 1) pa_nil)) pe_int (nomark _))
      (pss_one (ps_never))
      (pss_nil))
  (pss_cons (ps_set (i := 2) sc_World_parse.nd rfl (Or.inl rfl) (pe_m D_Line_read_field T.c_Line.cl (hr.mono (by omega)) pass0 (pe_ix ix_list (pv 1) pe_int (fun _ _ => rfl)) (pa_cons pe_str (pa_cons pe_int (pa_cons (ClX.pe_cval (pe_ga T.c_World.gC) rfl) pa_nil)))))
  (pss_cons (ps_expr (pe_m0 D_Line_finish T.c_Line.cl (hr.mono (by omega)) pass0 (pe_ix ix_list (pv 1) pe_int (fun _ _ => rfl))))
  (pss_one (ps_ret (pe_mk DI_World T.c_World (hr.mono (by omega)) pass0 (pa_cons (pv 0) (pa_cons (pv 2) (pa_cons (pe_f D_read_things (hr.mono (by omega)) pass0 (pa_cons (pe_slice sl_list (pv 1) (po_some pe_int) po_none) (pa_cons (pv 2) pa_nil))) pa_nil)))))))))
    , ?_⟩
  refine ⟨_, rfl, linesW W, rfl, linesW_ok wok, Nat.le_trans (linesW_len wok) (by decide), textW_len wok, fun p as H1 s1 hp hfr hnd hpp hpr => ?_⟩
  obtain ⟨a0, ar, rfl⟩ : ∃ a0 ar, as = a0 :: ar := by
    cases hpr with
    | cons _ _ => exact ⟨_, _, rfl⟩
  obtain ⟨L0, hpr2⟩ : LnAt CL H1 a0 (wHor W.horizon) 0 ∧ Paired (fun a l => LnAt CL H1 a l 0) ar (restW W) := by
    cases hpr with
    | cons x y => exact ⟨x, y⟩
  have hl0 : a0 ≠ p := by
    obtain ⟨dx, n, wl, c, g1, g2⟩ := L0.ex
    exact ne_of g1 hpp (fun z => nomatch z)
  refine ⟨_, rfl, p, _, rfl, .inl (SqL.of hpp), rfl, _, rfl, iteF' (decide_eq_false fun z => by
    have z2 := V.int.inj z
    rw [List.length_map, List.length_cons] at z2
    omega) ?_⟩
  obtain ⟨tk, hv⟩ := T.v_MOST_HORIZON
  have hh := wok.horizon
  obtain ⟨dx0, fs0, g0, z0⟩ := LnAt.no L0 (m := "read_field") (by decide +kernel) (by decide +kernel) (by decide +kernel) (by decide +kernel)
  refine ⟨_, rfl, p, _, _, .ref a0, rfl, rfl, SqL.of hpp, atI_nat (j := 0) rfl, a0, _, _, rfl, g0, z0, CW, _, _, _, rfl, T.rdW, hv, a0, _, 0, _, _, _, W.horizon, rfl, L0, rfl, rfl, by omega, by omega, by omega, by omega, fun H2 s2 L2 => ?_⟩
  have hpp2 := s2 _ _ hl0.symm hpp
  obtain ⟨dx1, fs1, g1, z1⟩ := LnAt.no L2 (m := "finish") (by decide +kernel) (by decide +kernel) (by decide +kernel) (by decide +kernel)
  refine ⟨_, rfl, p, _, _, .ref a0, rfl, rfl, SqL.of hpp2, atI_nat (j := 0) rfl, a0, _, _, rfl, g1, z1, a0, _, rfl, L2, ?_⟩
  have sl : cutV ((a0 :: ar).map V.ref) (some 1) none = ar.map V.ref := by
    unfold cutV
    rw [show HT.sIx ((a0 :: ar).map V.ref).length 0 (some 1) = min 1 ((a0 :: ar).map V.ref).length from HT.sIx_nat _ 0 1, HT.sIx_none]
    rw [List.map_cons, List.length_cons, show min 1 ((ar.map V.ref).length + 1) = 1 by omega]
    show List.take ((ar.map V.ref).length + 1 - 1) (ar.map V.ref) = ar.map V.ref
    rw [Nat.add_sub_cancel, List.take_length]
  refine ⟨_, rfl, _, rfl, _, rfl, 1, rfl, p, _, rfl, SqL.of hpp2, fun p2 hp2 => ?_⟩
  rw [sl]
  have nd2 := List.nodup_cons.mp hnd
  refine ⟨_, rfl, p2, ar, W, rfl, SqL.of upd_same, nd2.2, wok, ?_, fun th l0 l1 l2 l3 H3 s3 hT => ?_⟩
  · -- the lines stay
    have key : ∀ {as : List Addr} {ls : List (List Str)}, a0 ∉ as → Paired (fun a l => LnAt CL H1 a l 0) as ls → Paired (fun a l => LnAt CL (upd H2 p2 (.lst (ar.map V.ref))) a l 0) as ls := by
      intro as ls hn hp
      induction hp with
      | nil => exact .nil
      | cons x _ ih =>
        refine .cons ?_ (ih fun z => hn (List.mem_cons_of_mem _ z))
        exact (x.sx L0 (fun z => hn (z ▸ List.mem_cons_self)) s2).same (same_new hp2 _)
    exact key nd2.1 hpr2
  refine fun x dx hx hdx ne => ?_
  have sm : Same H3 (upd (upd H3 dx (.own x)) x (.ins CW dx [])) := fun b o e => by
    rw [upd_ne (ne_of_none e hx), upd_ne (ne_of_none e hdx)]
    exact e
  refine ⟨x, dx, W, th, l0, l1, l2, l3, rfl, upd_same, hT.same sm, fun H4 s4 hW => ⟨rfl, ?_⟩⟩
  have all : Same H H3 := fun b o e => by
    have n0 : b ≠ a0 := ne_of_none e (hfr a0 List.mem_cons_self)
    refine s3 b o (fun z => ?_) (same_new hp2 _ b o (s2 b o n0 (s1 b o e)))
    exact ne_of_none e (hfr b (List.mem_cons_of_mem _ z)) rfl
  refine q x H4 (all.free hx) (fun b o e => ?_) hW
  have e3 := all b o e
  exact s4 b o (ne_of_none e3 hx) (sm b o e3)
end
end DP
namespace DP
open PySem PySem.Spec PyProof.Rows L2
abbrev s__law_cell : Stmt := topS 68
theorem sc__law_cell : FnScope ["script", "k"] ["script", "k"] (defScope s__law_cell) := ⟨rfl, rfl, rfl, by decide +kernel, rfl, by decide +kernel, by decide +kernel⟩
abbrev s__law_draws : Stmt := topS 69
theorem sc__law_draws : FnScope ["cell", "count", "number", "great", "found", "k", "mixed"] ["cell", "count"] (defScope s__law_draws) := ⟨rfl, rfl, rfl, by decide +kernel, rfl, by decide +kernel, by decide +kernel⟩
abbrev s__law_stream : Stmt := topS 70
theorem sc__law_stream : FnScope ["script", "first", "count", "found", "k"] ["script", "first", "count"] (defScope s__law_stream) := ⟨rfl, rfl, rfl, by decide +kernel, rfl, by decide +kernel, by decide +kernel⟩
abbrev s__law_next : Stmt := topS 71
theorem sc__law_next : FnScope ["stream", "many", "digits", "place", "value"] ["stream", "many"] (defScope s__law_next) := ⟨rfl, rfl, rfl, by decide +kernel, rfl, by decide +kernel, by decide +kernel⟩
section
variable {P : Program} {w : World} {K : PySem.W.Frag} {mg : Str → Option Value} {base : Heap}
/-- some int -/
def spCell (K : PySem.W.Frag) : Sp := fun vs H Q _ => ∃ (a : Addr) (ns : List Int) (k : Int), vs = [.ref a, .int k] ∧ SqL K H a (ns.map V.int) ∧ 0 ≤ k ∧ ∀ v : Int, Q (.int v) H
theorem d_cell (B : Bt mg) (A : At K mg "_law_cell" s__law_cell ["script", "k"]) : DefOk P w K mg base CX0 1 "_law_cell" ["script", "k"] (DP.spCell K) := by
  refine A.ok sc__law_cell (fun vs H Q E h => ?_) (fun f cdv A outer s H vs Q E hr h => ?_)
  · obtain ⟨a, ns, k, rfl, _⟩ := h
    rfl
  obtain ⟨a, ns, k, rfl, hS, h0, q⟩ := h
  refine ⟨_, pss_cons (ps_if (pt_cmpR op_lt (pv 1) (pe_callB (call_len_seq) (by rfl) B.len (by decide +kernel) (pa_cons (pv 0) pa_nil)) (nomark _))
      (pss_one (ps_ret (pe_callTy (call_int1) (by rfl) B.int (by decide +kernel) (pa_cons (pe_ix ix_list (pv 0) (pv 1) (fun _ _ => rfl)) pa_nil))))
      (pss_nil))
  (pss_one (ps_ret pe_int))
    , ?_⟩
  refine ⟨_, rfl, _, rfl, a, _, rfl, .inl hS, _, _, rfl, rfl, _, rfl, ?_⟩
  refine ite2 (fun c => ?_) (fun c => ?_)
  · have c' : k < (((ns.map V.int).length : Nat) : Int) := of_decide_eq_true c
    rw [List.length_map] at c'
    have hk : k.toNat < ns.length := by omega
    have ek : k = ((k.toNat : Nat) : Int) := by omega
    have g : (ns.map V.int)[k.toNat]? = some (.int ns[k.toNat]) := by rw [List.getElem?_map, List.getElem?_eq_getElem hk] <;> rfl
    have g2 : atI (ns.map V.int) k = some (.int ns[k.toNat]) := by
      have := atI_nat g
      rw [← ek] at this
      exact this
    exact ⟨_, rfl, _, rfl, a, _, _, _, rfl, rfl, hS, g2, .inl ⟨_, rfl, q _⟩⟩
  · exact q 0
/-- a new list of twelve ints -/
def spDraws : Sp := fun vs H Q _ => ∃ c : Int, vs = [.int c, .int 12] ∧ ∀ (p : Addr) (ds : List Int) (H' : Hp), Same H H' → H p = none → ds.length = 12 → H' p = some (.lst (ds.map V.int)) → Q (.ref p) H'
theorem d_draws (B : Bt mg) (A : At K mg "_law_draws" s__law_draws ["cell", "count"]) : DefOk P w K mg base CX0 1 "_law_draws" ["cell", "count"] spDraws := by
  refine A.ok sc__law_draws (fun vs H Q E h => ?_) (fun f cdv A outer s H vs Q E hr h => ?_)
  · obtain ⟨c, rfl, _⟩ := h
    rfl
  obtain ⟨c, rfl, q⟩ := h
  refine ⟨_, pss_cons (ps_set (i := 2) sc__law_draws.nd rfl (Or.inl rfl) (pe_callB (call_abs) (by rfl) B.abs (by decide +kernel) (pa_cons (pe_callTy (call_int1) (by rfl) B.int (by decide +kernel) (pa_cons (pv 0) pa_nil)) pa_nil)))
  (pss_cons (ps_set (i := 3) sc__law_draws.nd rfl (Or.inl rfl) (pe_cmpR op_ge (pv 2) (pe_op op_pow pe_int pe_int) (nomark _)))
  (pss_cons (ps_set (i := 4) sc__law_draws.nd rfl (Or.inl rfl) (pe_lst pa_nil))
  (pss_cons (ps_for PassesOwn.never rfl (pi_range1 (by rfl) B.range (pa_cons pe_int pa_nil)) (pg_name (i := 5) sc__law_draws.nd rfl (Or.inl rfl))
      (pss_one (ps_if (PW.pt (pw_and (pt_cmpR op_lt (pv 5) (pv 1) (nomark _)) (pw_and1 (pt_val (pv 3)))))
          (pss_cons (ps_expr (pe_bm PySem.F.plainAttrs_list PySem.F.slot_list_append PySem.F.type_list_append mt_append (pv 4) (pa_cons (pe_op op_mod (pv 2) pe_int) pa_nil)))
          (pss_one (ps_set (i := 2) sc__law_draws.nd rfl (Or.inl rfl) (pe_op op_fdiv (pv 2) pe_int))))
          (pss_one (ps_if (pt_cmpR op_lt (pv 5) (pv 1) (nomark _))
              (pss_cons (ps_set (i := 6) sc__law_draws.nd rfl (Or.inl rfl) (pe_op op_mod (pe_op op_add (pe_op op_add (pe_op op_mul (pe_callTy (call_int1) (by rfl) B.int (by decide +kernel) (pa_cons (pv 2) pa_nil)) pe_int) (pe_op op_mul (pv 5) pe_int)) pe_int) pe_int))
              (pss_cons (ps_set (i := 6) sc__law_draws.nd rfl (Or.inl rfl) (pe_op op_mod (pe_op op_add (pe_op op_add (pe_op op_mul (pe_callTy (call_int1) (by rfl) B.int (by decide +kernel) (pa_cons (pv 6) pa_nil)) (pe_callTy (call_int1) (by rfl) B.int (by decide +kernel) (pa_cons (pv 6) pa_nil))) (pe_op op_mul (pv 5) pe_int)) pe_int) pe_int))
              (pss_one (ps_expr (pe_bm PySem.F.plainAttrs_list PySem.F.slot_list_append PySem.F.type_list_append mt_append (pv 4) (pa_cons (pe_op op_mod (pe_callTy (call_int1) (by rfl) B.int (by decide +kernel) (pa_cons (pv 6) pa_nil)) pe_int) pa_nil))))))
              (pss_nil))))))
  (pss_one (ps_ret (pv 4))))))
    , ?_⟩
  refine ⟨_, rfl, .inl ⟨_, rfl, c, rfl, ?_⟩⟩
  generalize hn0 : (if c < 0 then -c else c) = n0
  have p0 : 0 ≤ n0 := by
    rw [← hn0]
    split <;> omega
  refine ⟨_, rfl, _, _, rfl, rfl, ⟨by decide, by decide, by decide⟩, _, _, rfl, rfl, Nat.zero_le _, fun p hp => ?_⟩
  obtain ⟨g, hg⟩ : ∃ g, decide ((10 : Int) ^ (18 : Int).toNat ≤ n0) = g := ⟨_, rfl⟩
  have hsmall : g = false → n0 < 10 ^ 18 := fun e => by
    rw [e] at hg
    have := of_decide_eq_false hg
    have e2 : (10 : Int) ^ (18 : Int).toNat = 10 ^ 18 := rfl
    rw [e2] at this
    omega
  refine ⟨60, rfl, by decide, by decide, for_range (n := 60) (fun i σ H' => ∃ (num : Int) (ds : List Int) (y5 y6 : Option V), σ = [some (.int c), some (.int 12), some (.int num), some (.bl g), some (.ref p), y5, y6] ∧ 0 ≤ num ∧ (g = false → num < 10 ^ 18) ∧
    ds.length = min i 12 ∧ H' p = some (.lst (ds.map V.int)) ∧ Same H H') ⟨n0, [], none, none, by rw [← hg]; rfl, p0, hsmall, rfl, upd_same, same_new hp _⟩ (fun i σ H1 hi hI => ?_) (fun σ H1 hI => ?_)⟩
  · obtain ⟨num, ds, y5, y6, rfl, pn, sn, hl, hpp, hs⟩ := hI
    have room : (ds.map V.int).length < sizeLine := by
      rw [List.length_map, hl]
      exact small1000 (by omega)
    have grow : ∀ v : Int, i < 12 → (ds ++ [v]).length = min (i + 1) 12 := fun v h => by
      rw [List.length_append, hl, List.length_singleton]
      omega
    have put : ∀ v : Int, (upd H1 p (.lst (ds.map V.int ++ [.int v]))) p = some (.lst ((ds ++ [v]).map V.int)) := fun v => by
      rw [upd_same, List.map_append] <;> rfl
    refine ⟨_, rfl, _, rfl, _, _, rfl, rfl, _, rfl, ?_⟩
    refine ite2 (fun c1 => ?_) (fun c1 => ?_)
    · have c1' : (0 : Int) + (i : Nat) < 12 := of_decide_eq_true c1
      refine ⟨_, rfl, g, rfl, ?_⟩
      cases g with
      | true =>
        refine iteT ?_
        refine ⟨_, rfl, .inl ⟨rfl, _, SqL.of hpp⟩, _, rfl, _, _, rfl, rfl, (by show (0 : Int) < 60; decide), _, _, _, rfl, rfl, hpp, room, ?_⟩
        refine ⟨_, rfl, _, _, rfl, rfl, ⟨by decide, by decide⟩, ?_⟩
        exact ⟨num / 60, ds ++ [num % 60], _, _, rfl, Int.ediv_nonneg pn (by decide), fun z => Bool.noConfusion z, grow _ (by omega), put _, same_at hp hs _⟩
      | false =>
        have sn' := sn rfl
        refine iteF ?_
        refine ⟨_, rfl, _, rfl, _, _, rfl, rfl, _, rfl, iteT' (decide_eq_true c1') ?_⟩
        refine ⟨_, rfl, .inl ⟨_, rfl, _, _, rfl, rfl, .inr ⟨by decide, by decide⟩, _, rfl, _, _, rfl, rfl, .inr ⟨by decide, by decide⟩, _, _, rfl, rfl, _, _, rfl, rfl, _, _, rfl, rfl, (by show (0 : Int) < 2147483647; decide), ?_⟩⟩
        generalize hm : ((num * 48271 + (0 + (i : Nat)) * 69621 + 11) % 2147483647 : Int) = m1
        have b1 : 0 ≤ m1 := by rw [← hm]; exact Int.emod_nonneg _ (by decide)
        have b2 : m1 < 2147483647 := by rw [← hm]; exact Int.emod_lt_of_pos _ (by decide)
        refine ⟨_, rfl, .inl ⟨_, rfl, _, rfl, .inl ⟨_, rfl, _, _, rfl, rfl, .inl ⟨by omega, by omega⟩, _, rfl, _, _, rfl, rfl, .inr ⟨by decide, by decide⟩, _, _, rfl, rfl, _, _, rfl, rfl, _, _, rfl, rfl, (by show (0 : Int) < 998244353; decide), ?_⟩⟩⟩
        refine ⟨_, rfl, .inl ⟨rfl, _, SqL.of hpp⟩, _, rfl, .inl ⟨_, rfl, _, _, rfl, rfl, (by show (0 : Int) < 60; decide), _, _, _, rfl, rfl, hpp, room, ?_⟩⟩
        exact ⟨num, _, _, _, rfl, pn, sn, grow _ (by omega), put _, same_at hp hs _⟩
    · have c1' : ¬ (0 : Int) + (i : Nat) < 12 := fun z => c1 (decide_eq_true z)
      refine ⟨_, rfl, _, rfl, _, _, rfl, rfl, _, rfl, iteF' (decide_eq_false c1') ?_⟩
      exact ⟨num, ds, _, _, rfl, pn, sn, by rw [hl]; omega, hpp, hs⟩
  · obtain ⟨num, ds, y5, y6, rfl, pn, sn, hl, hpp, hs⟩ := hI
    exact ⟨_, rfl, q p ds H1 hs hp hl hpp⟩
theorem mod_place' {i : Int} {n : Nat} (h : 0 < n) : (i % (n : Int)).toNat < n ∧ (((i % (n : Int)).toNat : Nat) : Int) = i % (n : Int) := by
  have h1 : 0 ≤ i % (n : Int) := Int.emod_nonneg i (by omega)
  have h2 : i % (n : Int) < (n : Int) := Int.emod_lt_of_pos i (by omega)
  have h3 : (((i % (n : Int)).toNat : Nat) : Int) = i % (n : Int) := Int.toNat_of_nonneg h1
  refine ⟨?_, h3⟩
  omega
/-- a stream: its digits, its place -/
def Strm (H : Hp) (st : Addr) : Prop := ∃ (d p : Addr) (ds : List Int), H st = some (.lst [.ref d, .ref p]) ∧ H d = some (.lst (ds.map V.int)) ∧ 0 < ds.length ∧ H p = some (plO p)
theorem Strm.same {H H' : Hp} {st : Addr} (h : Strm H st) (s : Same H H') : Strm H' st := by
  obtain ⟨d, p, ds, h1, h2, h3, h4⟩ := h
  exact ⟨d, p, ds, s _ _ h1, s _ _ h2, h3, s _ _ h4⟩
def spStream0 (K : PySem.W.Frag) : Sp := fun vs H Q _ => ∃ (a : Addr) (ns : List Int) (first count : Int), vs = [.ref a, .int first, .int count] ∧ SqL K H a (ns.map V.int) ∧ 0 ≤ first ∧ 0 < count ∧ count ≤ 60 ∧
  ∀ (st d p : Addr) (ds : List Int) (H' : Hp), Same H H' → H st = none → H d = none → H p = none → st ≠ p → d ≠ p → H' st = some (.lst [.ref d, .ref p]) → H' d = some (.lst (ds.map V.int)) → 0 < ds.length → H' p = some (.lst [.int 0]) → Q (.ref st) H'
theorem d_stream0 (B : Bt mg) (D_law_cell : DefOk P w K mg base CX0 1 "_law_cell" ["script", "k"] (DP.spCell K)) (D_law_draws : DefOk P w K mg base CX0 1 "_law_draws" ["cell", "count"] spDraws)
    (A : At K mg "_law_stream" s__law_stream ["script", "first", "count"]) : DefOk P w K mg base CX0 2 "_law_stream" ["script", "first", "count"] (spStream0 K) := by
  refine A.ok sc__law_stream (fun vs H Q E h => ?_) (fun f cdv A outer s H vs Q E hr h => ?_)
  · obtain ⟨a, ns, first, count, rfl, _⟩ := h
    rfl
  obtain ⟨a, ns, first, count, rfl, hS, h0, h1, h2, q⟩ := h
  refine ⟨_, pss_cons (ps_set (i := 3) sc__law_stream.nd rfl (Or.inl rfl) (pe_lst pa_nil))
  (pss_cons (ps_for PassesOwn.never rfl (pi_range1 (by rfl) B.range (pa_cons (pv 2) pa_nil)) (pg_name (i := 4) sc__law_stream.nd rfl (Or.inl rfl))
      (pss_one (ps_expr (pe_bm PySem.F.plainAttrs_list PySem.F.slot_list_extend PySem.F.type_list_extend mt_extend (pv 3) (pa_cons (pe_f D_law_draws (hr.mono (by omega)) pass0 (pa_cons (pe_f D_law_cell (hr.mono (by omega)) pass0 (pa_cons (pv 0) (pa_cons (pe_op op_add (pv 1) (pv 4)) pa_nil))) (pa_cons pe_int pa_nil))) pa_nil)))))
  (pss_one (ps_ret (pe_lst (pa_cons (pv 3) (pa_cons (pe_lst (pa_cons pe_int pa_nil)) pa_nil))))))
    , ?_⟩
  refine ⟨Nat.zero_le _, fun p hp => ?_⟩
  refine ⟨_, rfl, count, rfl, by omega, by omega, for_range (n := count.toNat) (fun i σ H' => ∃ (ds : List Int) (y4 : Option V), σ = [some (.ref a), some (.int first), some (.int count), some (.ref p), y4] ∧ ds.length = 12 * i ∧ H' p = some (.lst (ds.map V.int)) ∧ Same H H')
    ⟨[], none, rfl, rfl, upd_same, same_new hp _⟩ (fun i σ H1 hi hI => ?_) (fun σ H1 hI => ?_)⟩
  · obtain ⟨ds, y4, rfl, hl, hpp, hs⟩ := hI
    refine ⟨_, rfl, .inl ⟨rfl, _, SqL.of hpp⟩, _, rfl, _, rfl, _, rfl, _, _, rfl, rfl, a, ns, first + (0 + (i : Int)), rfl, hs.seq hS, by omega, fun v => ?_⟩
    refine ⟨v, rfl, fun b es H2 s2 nb hl2 hb => ?_⟩
    refine ⟨p, b, _, _, rfl, rfl, s2 _ _ hpp, hb, ?_, ?_⟩
    · rw [List.length_map, List.length_map, hl, hl2]
      exact small (by omega)
    · refine ⟨ds ++ es, _, rfl, by rw [List.length_append, hl, hl2]; omega, by rw [upd_same, List.map_append], same_at hp (hs.trans s2) _⟩
  · obtain ⟨ds, y4, rfl, hl, hpp, hs⟩ := hI
    refine ⟨_, rfl, Nat.le_trans (by decide : 1 ≤ 1000) (Nat.le_of_lt (small1000 (Nat.le_refl _))), fun pl npl => ?_⟩
    have e1 : p ≠ pl := ne_of_none hpp npl
    refine ⟨Nat.le_trans (by decide : 2 ≤ 1000) (Nat.le_of_lt (small1000 (Nat.le_refl _))), fun st nst => ?_⟩
    have nst0 := nst
    have e2 : pl ≠ st := fun z => by
      rw [← z, upd_same] at nst
      cases nst
    rw [upd_ne e2.symm] at nst
    have e3 : p ≠ st := ne_of_none hpp nst
    refine q st p pl ds _ (same_at (hs.free nst) (same_at (hs.free npl) hs _) _) (hs.free nst) hp (hs.free npl) e2.symm e1 upd_same ?_ (by rw [hl]; omega) ?_
    · rw [upd_ne e3, upd_ne e1]
      exact hpp
    · rw [upd_ne e2, upd_same]
def spStream (K : PySem.W.Frag) : Sp := fun vs H Q _ => ∃ (a : Addr) (ns : List Int) (first count : Int), vs = [.ref a, .int first, .int count] ∧ SqL K H a (ns.map V.int) ∧ 0 ≤ first ∧ 0 < count ∧ count ≤ 60 ∧
  ∀ (st : Addr) (H' : Hp), Same H H' → H st = none → Strm H' st → Q (.ref st) H'
theorem d_stream (D : DefOk P w K mg base CX0 2 "_law_stream" ["script", "first", "count"] (spStream0 K)) : DefOk P w K mg base CX0 2 "_law_stream" ["script", "first", "count"] (spStream K) := by
  refine D.hide_out (fun vs H Q E h => ?_) (fun vs H Q E h => ?_)
  · obtain ⟨a, ns, first, count, rfl, _⟩ := h
    rfl
  obtain ⟨a, ns, first, count, rfl, hS, h0, h1, h2, q⟩ := h
  refine ⟨a, ns, first, count, rfl, hS, h0, h1, h2, fun st d p ds H' s nst nd np e1 e2 g1 g2 g3 g4 => ⟨p, 0, np, g4, q st _ (same_at np s _) nst ⟨d, p, ds, ?_, ?_, g3, upd_same⟩⟩⟩
  · rw [upd_ne e1]; exact g1
  · rw [upd_ne e2]; exact g2
def spNext0 : Sp := fun vs H Q _ => ∃ (st d p : Addr) (ds : List Int) (n many : Int), vs = [.ref st, .int many] ∧ 0 < many ∧ H st = some (.lst [.ref d, .ref p]) ∧ H d = some (.lst (ds.map V.int)) ∧ 0 < ds.length ∧ H p = some (.lst [.int n]) ∧
  ∀ v m : Int, 0 ≤ v → v < many → Q (.int v) (upd H p (.lst [.int m]))
theorem d_next0 (B : Bt mg) (A : At K mg "_law_next" s__law_next ["stream", "many"]) : DefOk P w K mg base CX0 1 "_law_next" ["stream", "many"] spNext0 := by
  refine A.ok sc__law_next (fun vs H Q E h => ?_) (fun f cdv A outer s H vs Q E hr h => ?_)
  · obtain ⟨a, d, p, ds, n, many, rfl, _⟩ := h
    rfl
  obtain ⟨st, d, p, ds, n, many, rfl, hm, h1, h2, h3, h4, q⟩ := h
  refine ⟨_, pss_cons (ps_set (i := 2) sc__law_next.nd rfl (Or.inl rfl) (pe_ix ix_list (pv 0) pe_int (fun _ _ => rfl)))
  (pss_cons (ps_set (i := 3) sc__law_next.nd rfl (Or.inl rfl) (pe_ix ix_list (pv 0) pe_int (fun _ _ => rfl)))
  (pss_cons (ps_set (i := 4) sc__law_next.nd rfl (Or.inl rfl) (pe_op op_mod (pe_callTy (call_int1) (by rfl) B.int (by decide +kernel) (pa_cons (pe_ix ix_list (pv 2) (pe_op op_mod (pe_callTy (call_int1) (by rfl) B.int (by decide +kernel) (pa_cons (pe_ix ix_list (pv 3) pe_int (fun _ _ => rfl)) pa_nil)) (pe_callB (call_len_seq) (by rfl) B.len (by decide +kernel) (pa_cons (pv 2) pa_nil))) (fun _ _ => rfl)) pa_nil)) (pv 1)))
  (pss_cons (ps_asg (pe_op op_add (pe_ix ix_list (pv 3) pe_int (fun _ _ => rfl)) pe_int) (pg_sub (pv 3) pe_int set_list))
  (pss_one (ps_ret (pv 4))))))
    , ?_⟩
  refine ⟨_, rfl, st, _, 0, .ref d, rfl, rfl, SqL.of h1, rfl, ?_⟩
  refine ⟨_, rfl, st, _, 1, .ref p, rfl, rfl, SqL.of h1, rfl, ?_⟩
  have hp := (mod_place' (i := n) h3)
  have g2 : atI (ds.map V.int) (n % (((ds.map V.int).length : Nat) : Int)) = some (.int ds[(n % (ds.length : Int)).toNat]) := by
    have g : (ds.map V.int)[(n % (ds.length : Int)).toNat]? = some (.int ds[(n % (ds.length : Int)).toNat]) := by rw [List.getElem?_map, List.getElem?_eq_getElem hp.1] <;> rfl
    have g3 := atI_nat g
    rw [hp.2] at g3
    rw [List.length_map]
    exact g3
  refine ⟨_, rfl, _, rfl, p, _, 0, .int n, rfl, rfl, SqL.of h4, rfl, .inl ⟨_, rfl, _, rfl, d, _, rfl, .inl (SqL.of h2), _, _, rfl, rfl, (by rw [List.length_map]; omega), ?_⟩⟩
  refine ⟨d, _, _, _, rfl, rfl, SqL.of h2, g2, .inl ⟨_, rfl, _, rfl, _, _, rfl, rfl, hm, ?_⟩⟩
  refine ⟨_, rfl, p, _, 0, .int n, rfl, rfl, SqL.of h4, rfl, _, _, rfl, rfl, _, rfl, p, _, 0, 0, rfl, rfl, h4, rfl, ?_⟩
  exact ⟨_, rfl, q _ _ (Int.emod_nonneg _ (by omega)) (Int.emod_lt_of_pos _ hm)⟩
/-- some int below many; nothing is seen to change -/
def spNext : Sp := fun vs H Q _ => ∃ (st : Addr) (many : Int), vs = [.ref st, .int many] ∧ 0 < many ∧ Strm H st ∧ ∀ v : Int, 0 ≤ v → v < many → Q (.int v) H
theorem d_next (D : DefOk P w K mg base CX0 1 "_law_next" ["stream", "many"] spNext0) : DefOk P w K mg base CX0 1 "_law_next" ["stream", "many"] spNext := by
  refine D.hide_in (fun vs H Q E h => ?_) (fun vs H Q E h => ?_)
  · obtain ⟨st, many, rfl, _⟩ := h
    rfl
  obtain ⟨st, many, rfl, hm, ⟨d, p, ds, h1, h2, h3, h4⟩, q⟩ := h
  have e1 : st ≠ p := ne_of h1 h4 (fun z => nomatch z)
  have e2 : d ≠ p := ne_of h2 h4 (fun z => nomatch z)
  exact ⟨p, h4, fun n => ⟨st, d, p, ds, n, many, rfl, hm, by rw [upd_ne e1]; exact h1, by rw [upd_ne e2]; exact h2, h3, upd_same, fun v m v0 v1 => ⟨⟨m, upd_upd⟩, q v v0 v1⟩⟩⟩
end
end DP
namespace DP
open PySem PySem.Spec PyProof.Rows L2
abbrev s__law_word : Stmt := topS 72
theorem sc__law_word : FnScope ["stream", "index", "letters", "size", "text", "place", "word", "k"] ["stream", "index"] (defScope s__law_word) := ⟨rfl, rfl, rfl, by decide +kernel, rfl, by decide +kernel, by decide +kernel⟩
def lo36 : Str := "abcdefghijklmnopqrstuvwxyz0123456789"
def isLo (c : Nat) : Bool := (decide (97 ≤ c) && decide (c ≤ 122)) || isD c
def isUp (c : Nat) : Bool := decide (65 ≤ c) && decide (c ≤ 90)
theorem isLo_notUp {c : Nat} (h : isLo c = true) : isUp c = false := by
  unfold isLo isD at h
  unfold isUp
  simp only [Bool.or_eq_true, Bool.and_eq_true, decide_eq_true_eq] at h
  simp only [Bool.and_eq_false_iff, decide_eq_false_iff_not]
  omega
theorem isLo_sign {c : Nat} (h : isLo c = true) : (isL c || isD c) = true := by
  unfold isLo at h
  unfold isL
  simp only [Bool.or_eq_true, Bool.and_eq_true, decide_eq_true_eq] at h ⊢
  rcases h with h | h
  · exact .inl (.inr h)
  · exact .inr h
/-- the word of the i-th thing: its one capital tells i -/
structure WordAt (i : Nat) (u : Str) : Prop where
  ok : NameOk u
  cap : (tl u).filter isUp = [65 + i]
theorem WordAt.inj {i j : Nat} {u : Str} (h : WordAt i u) (k : WordAt j u) : i = j := by
  have e := h.cap.symm.trans k.cap
  have := (List.cons.inj e).1
  omega
theorem cutS_mem {z : Str} {a b : Option Int} {c : Nat} (h : c ∈ tl (cutS z a b)) : c ∈ tl z := List.mem_of_mem_drop (List.mem_of_mem_take h)
theorem filter_none {l : List Nat} (h : ∀ c ∈ l, isLo c = true) : l.filter isUp = [] := List.filter_eq_nil_iff.mpr fun c hc => by rw [isLo_notUp (h c hc)]; exact Bool.false_ne_true
theorem lo36_at {v : Int} (h0 : 0 ≤ v) (h1 : v < 36) : ∃ c, atI lo36.cps.toList v = some c ∧ isLo c = true := by
  have all : ∀ j, j < 36 → ∃ c, lo36.cps.toList[j]? = some c ∧ isLo c = true := by
    intro j hj
    have hl : lo36.cps.toList.length = 36 := by decide +kernel
    refine ⟨lo36.cps.toList[j]'(by omega), List.getElem?_eq_getElem _, ?_⟩
    have al : ∀ c ∈ lo36.cps.toList, isLo c = true := by decide +kernel
    exact al _ (List.getElem_mem _)
  obtain ⟨c, h2, h3⟩ := all v.toNat (by omega)
  refine ⟨c, ?_, h3⟩
  have := atI_nat h2
  rw [show ((v.toNat : Nat) : Int) = v by omega] at this
  exact this
theorem cap_at {i : Nat} (h : i < 10) : atI ("ABCDEFGHIJ" : Str).cps.toList (i : Int) = some (65 + i) := by
  have all : ∀ j, j < 10 → ("ABCDEFGHIJ" : Str).cps.toList[j]? = some (65 + j) := by decide +kernel
  exact atI_nat (all i h)
theorem tl_str1 {c : Nat} : tl (⟨#[c]⟩ : Str) = [c] := rfl
theorem tl_app (x y : Str) : tl (x ++ y) = tl x ++ tl y := TL.tl_append x y
theorem join_ones : ∀ cs : List Nat, tl (Txt.join (Str.ofString "") (cs.map fun c => (⟨#[c]⟩ : Str))) = cs := fun cs => by
  rw [TL.join_eq]
  show TL.tl (Str.join (Str.ofString "") (cs.map fun c => (⟨#[c]⟩ : Str))) = cs
  rw [TL.tl_join, List.map_map]
  have e : TL.tl (Str.ofString "") = [] := by decide +kernel
  rw [e]
  induction cs with
  | nil => rfl
  | cons a r ih =>
    cases r with
    | nil => rfl
    | cons b t =>
      show [a] ++ ([] ++ TL.joinL [] ((b :: t).map _)) = a :: b :: t
      rw [List.nil_append, ih]
      rfl
/-- the word's parts put together -/
theorem word_ok {i : Nat} {pre suf : Str} {z : Str} (hi : i < 10) (hp : ∀ c ∈ tl pre, isLo c = true) (hs : ∀ c ∈ tl suf, isLo c = true) (lp : (tl pre).length ≤ 4) (ls : (tl suf).length ≤ 4) (hz : tl z = tl pre ++ (65 + i) :: tl suf) :
    (∃ c r, tl z = c :: r ∧ (isD c = true ∨ isL c = true)) ∧ (∀ c r, tl z = c :: r → isD c = true → WordAt i ((Str.ofString "v" : Str) ++ z)) ∧ (∀ c r, tl z = c :: r → isD c = false → WordAt i z) := by
  have sg : ∀ c ∈ tl z, (isL c || isD c) = true := fun c hc => by
    rw [hz] at hc
    rcases List.mem_append.mp hc with hc | hc
    · exact isLo_sign (hp c hc)
    · rcases List.mem_cons.mp hc with rfl | hc
      · unfold isL
        simp only [Bool.or_eq_true, Bool.and_eq_true, decide_eq_true_eq]
        omega
      · exact isLo_sign (hs c hc)
  have cp : (tl z).filter isUp = [65 + i] := by
    rw [hz, List.filter_append, filter_none hp, List.nil_append, List.filter_cons, filter_none hs, if_pos]
    unfold isUp
    simp only [Bool.and_eq_true, decide_eq_true_eq]
    omega
  have ln : (tl z).length ≤ 9 := by
    rw [hz, List.length_append, List.length_cons]
    omega
  have ev : tl (Str.ofString "v") = [118] := by decide +kernel
  refine ⟨?_, fun c r e hd => ⟨⟨118, c :: r, by rw [tl_app, ev, e]; rfl, by decide, fun x hx => sg x (by rw [e]; exact hx), by rw [← e]; omega⟩, ?_⟩, fun c r e hd => ⟨⟨c, r, e, ?_, fun x hx => sg x (by rw [e]; exact List.mem_cons_of_mem _ hx), ?_⟩, cp⟩⟩
  · cases q : tl z with
    | nil =>
      rw [hz] at q
      exact absurd q (by simp)
    | cons c r =>
      refine ⟨c, r, rfl, ?_⟩
      have := sg c (by rw [q]; exact List.mem_cons_self)
      rcases Bool.or_eq_true _ _ ▸ this with h | h
      · exact .inr h
      · exact .inl h
  · rw [tl_app, ev, List.filter_append, cp]
    rfl
  · have := sg c (by rw [e]; exact List.mem_cons_self)
    rw [hd, Bool.or_false] at this
    exact this
  · have := congrArg List.length e
    rw [List.length_cons] at this
    omega
section
variable {P : Program} {w : World} {K : PySem.W.Frag} {mg : Str → Option Value} {base : Heap}
def spWord : Sp := fun vs H Q _ => ∃ (st : Addr) (i : Nat), vs = [.ref st, .int (i : Int)] ∧ i < 10 ∧ Strm H st ∧ ∀ u H', Same H H' → WordAt i u → Q (.str u) H'
theorem d_word (B : Bt mg) (D_law_next : DefOk P w K mg base CX0 1 "_law_next" ["stream", "many"] spNext) (A : At K mg "_law_word" s__law_word ["stream", "index"]) : DefOk P w K mg base CX0 2 "_law_word" ["stream", "index"] spWord := by
  refine A.ok sc__law_word (fun vs H Q E h => ?_) (fun f cdv A outer s H vs Q E hr h => ?_)
  · obtain ⟨st, i, rfl, _⟩ := h
    rfl
  obtain ⟨st, i, rfl, hi, hst, q⟩ := h
  refine ⟨_, pss_cons (ps_set (i := 2) sc__law_word.nd rfl (Or.inr rfl) pe_str)
  (pss_cons (ps_set (i := 3) sc__law_word.nd rfl (Or.inl rfl) (pe_f D_law_next (hr.mono (by omega)) pass0 (pa_cons (pv 0) (pa_cons pe_int pa_nil))))
  (pss_cons (ps_set (i := 4) sc__law_word.nd rfl (Or.inl rfl) (pe_join pe_str (pe_lc (own := [("k", 7)])  rfl sc__law_word.nd (pi_range1 (by rfl) B.range (pa_cons (pv 3) pa_nil)) (blkOk_by (own := [("k", 7)]) (N := ["stream", "index", "letters", "size", "text", "place", "word", "k"]) (sc := defScope s__law_word) (by decide +kernel)) (fun _ _ _ _ _ => pg_name (i := 7) sc__law_word.nd rfl (Or.inl rfl)) (fun _ _ _ _ _ => pts_nil) (fun _ _ _ _ _ => (pe_ix ix_str (pv 2) (pe_f D_law_next (hr.mono (by omega)) pass0 (pa_cons (pv 0) (pa_cons pe_int pa_nil))) (fun _ _ => rfl))))))
  (pss_cons (ps_set (i := 5) sc__law_word.nd rfl (Or.inl rfl) (pe_f D_law_next (hr.mono (by omega)) pass0 (pa_cons (pv 0) (pa_cons (pe_op op_add (pv 3) pe_int) pa_nil))))
  (pss_cons (ps_set (i := 6) sc__law_word.nd rfl (Or.inl rfl) (pe_op op_add_str (pe_op op_add_str (pe_slice sl_str (pv 4) po_none (po_some (pv 5))) (pe_ix ix_str pe_str (pv 1) (fun _ _ => rfl))) (pe_slice sl_str (pv 4) (po_some (pv 5)) po_none)))
  (pss_cons (ps_if (pt_cmpR op_in_sign (pe_ix ix_str (pv 6) pe_int (fun _ _ => rfl)) (pe_slice sl_str (pv 2) (po_some pe_int) po_none) (by rfl))
      (pss_one (ps_set (i := 6) sc__law_word.nd rfl (Or.inl rfl) (pe_op op_add_str pe_str (pv 6))))
      (pss_nil))
  (pss_one (ps_ret (pv 6))))))))
    , ?_⟩
  refine ⟨_, rfl, st, 5, rfl, by decide, hst, fun sz s0 s1 => ?_⟩
  refine ⟨⟨_, rfl⟩, _, rfl, sz, rfl, by omega, by omega, fun D hD => ?_⟩
  refine lc_range (lo := 0) (n := sz.toNat) (fun k H' => ∃ cs : List Nat, cs.length = k ∧ (∀ c ∈ cs, isLo c = true) ∧ H' D = some (.lst ((cs.map fun c => (⟨#[c]⟩ : Str)).map V.str)) ∧ Same H H') ⟨[], rfl, fun _ z => absurd z List.not_mem_nil, upd_same, same_new hD _⟩ (fun k H1 hk hI => ?_) (fun H1 hI => ?_)
  · obtain ⟨cs, hc, hlo, hDD, hs⟩ := hI
    refine ⟨rfl, _, rfl, _, rfl, st, 36, rfl, by decide, hst.same hs, fun v v0 v1 => ?_⟩
    obtain ⟨c, hc1, hc2⟩ := lo36_at v0 v1
    refine ⟨_, _, c, rfl, rfl, by decide +kernel, hc1, _, hDD, by rw [List.length_map, List.length_map, hc]; exact small1000 (by omega), cs ++ [c], by rw [List.length_append, hc, List.length_singleton], ?_, by rw [upd_same, List.map_append, List.map_append]; rfl, same_at hD hs _⟩
    intro x hx
    rcases List.mem_append.mp hx with hx | hx
    · exact hlo x hx
    · rw [List.mem_singleton.mp hx]; exact hc2
  · obtain ⟨cs, hc, hlo, hDD, hs⟩ := hI
    have hl4 : cs.length ≤ 4 := by omega
    refine ⟨Str.ofString "", D, cs.map fun c => (⟨#[c]⟩ : Str), rfl, rfl, .inl (SqL.of hDD), ?_, ?_⟩
    · have e : ((cs.map fun c => (⟨#[c]⟩ : Str)).map (·.length)).sum = cs.length := by
        rw [List.map_map]
        clear hDD hc hl4 hlo
        induction cs with
        | nil => rfl
        | cons a r ih =>
          rw [List.map_cons, List.sum_cons, ih, List.length_cons]
          show 1 + r.length = _
          omega
      have e2 : (Str.ofString "" : Str).length = 0 := by decide +kernel
      rw [e, e2, Nat.mul_zero]
      omega
    obtain ⟨tx, htx⟩ : ∃ tx, Txt.join (Str.ofString "") (cs.map fun c => (⟨#[c]⟩ : Str)) = tx := ⟨_, rfl⟩
    have etx : tl tx = cs := by rw [← htx]; exact join_ones cs
    rw [htx]
    have hst1 := hst.same hs
    have ltx : tx.length ≤ 4 := by
      rw [TL.len_tl, show TL.tl tx = tl tx from rfl, etx]
      exact hl4
    refine ⟨_, rfl, _, rfl, _, _, rfl, rfl, st, sz + 1, rfl, by omega, hst1, fun pl p0 p1 => ?_⟩
    have lpre := cutS_length tx none (some pl)
    have lsuf := cutS_length tx (some pl) none
    have lcap : (⟨#[65 + i]⟩ : Str).length = 1 := rfl
    have lapp : (cutS tx none (some pl) ++ (⟨#[65 + i]⟩ : Str)).length = (cutS tx none (some pl)).length + 1 := by
      rw [TL.len_tl, TL.tl_append, List.length_append, ← TL.len_tl, ← TL.len_tl, lcap]
    refine ⟨_, rfl, _, rfl, pl, rfl, tx, rfl, Nat.le_trans ltx (by decide), _, rfl, _, _, 65 + i, rfl, rfl, by decide +kernel, cap_at hi, _, _, rfl, rfl, ?_, ?_⟩
    · rw [lcap]; exact Nat.le_trans (Nat.add_le_add_right (Nat.le_trans lpre ltx) 1) (by decide)
    refine ⟨_, rfl, _, rfl, pl, rfl, tx, rfl, Nat.le_trans ltx (by decide), _, _, rfl, rfl, ?_, ?_⟩
    · rw [lapp]
      exact Nat.le_trans (Nat.add_le_add (Nat.add_le_add_right (Nat.le_trans lpre ltx) 1) (Nat.le_trans lsuf ltx)) (by decide)
    obtain ⟨z, hz⟩ : ∃ z, cutS tx none (some pl) ++ (⟨#[65 + i]⟩ : Str) ++ cutS tx (some pl) none = z := ⟨_, rfl⟩
    have ez : tl z = tl (cutS tx none (some pl)) ++ (65 + i) :: tl (cutS tx (some pl) none) := by
      rw [← hz, tl_app, tl_app, tl_str1, List.append_assoc]
      rfl
    have hpre : ∀ c ∈ tl (cutS tx none (some pl)), isLo c = true := fun c hc' => hlo c (by rw [← etx]; exact cutS_mem hc')
    have hsuf : ∀ c ∈ tl (cutS tx (some pl) none), isLo c = true := fun c hc' => hlo c (by rw [← etx]; exact cutS_mem hc')
    obtain ⟨⟨c, r, ec, hcd⟩, w1, w2⟩ := word_ok hi hpre hsuf (by rw [show (tl (cutS tx none (some pl))).length = (cutS tx none (some pl)).length from (TL.len_tl _).symm]; omega) (by rw [show (tl (cutS tx (some pl) none)).length = (cutS tx (some pl) none).length from (TL.len_tl _).symm]; omega) ez
    have lz : z.length ≤ 9 := by
      rw [← hz, TL.len_tl, TL.tl_append, List.length_append, ← TL.len_tl, ← TL.len_tl, lapp]
      omega
    have hat : atI z.cps.toList 0 = some c := by
      show atI (tl z) 0 = some c
      rw [ec]
      exact atI_nat (j := 0) rfl
    rw [hz]
    have e26 : cutS lo36 (some 26) none = ("0123456789" : Str) := by decide +kernel
    refine ⟨_, rfl, _, _, c, rfl, rfl, Nat.le_trans lz (by decide), hat, _, rfl, 26, rfl, lo36, rfl, by decide +kernel, c, _, rfl, rfl, _, rfl, ite2 (fun k => ?_) (fun k => ?_)⟩
    · have hk : c ∈ (cutS lo36 (some 26) none).cps.toList := of_decide_eq_true k
      rw [e26] at hk
      have hd : isD c = true := by
        have al : ∀ x ∈ ("0123456789" : Str).cps.toList, isD x = true := by decide +kernel
        exact al c hk
      have ev : (Str.ofString "v" : Str).length = 1 := by decide +kernel
      refine ⟨_, rfl, _, _, rfl, rfl, by rw [ev]; exact Nat.le_trans (Nat.add_le_add_left lz 1) (by decide), ?_⟩
      exact ⟨_, rfl, q _ H1 hs (w1 c r ec hd)⟩
    · have hk : ¬ c ∈ (cutS lo36 (some 26) none).cps.toList := fun z => k (decide_eq_true z)
      rw [e26] at hk
      have hd : isD c = false := by
        cases e : isD c with
        | false => rfl
        | true => exact absurd (dig_in (isD_lt e)) hk
      exact ⟨_, rfl, q _ H1 hs (w2 c r ec hd)⟩
end
end DP
namespace DP
open PySem PySem.Spec PyProof.Rows L2
abbrev s__law_satellite : Stmt := topS 73
theorem sc__law_satellite : FnScope ["stream", "index", "horizon", "store", "battery", "level", "reserve", "light", "least", "k", "first", "end", "numbers"] ["stream", "index", "horizon"] (defScope s__law_satellite) := ⟨rfl, rfl, rfl, by decide +kernel, rfl, by decide +kernel, by decide +kernel⟩
abbrev s__law_recording : Stmt := topS 74
theorem sc__law_recording : FnScope ["stream", "index", "satellites", "horizon", "earliest", "latest", "length", "deadline", "numbers", "urgency"] ["stream", "index", "satellites", "horizon"] (defScope s__law_recording) := ⟨rfl, rfl, rfl, by decide +kernel, rfl, by decide +kernel, by decide +kernel⟩
abbrev s__law_pass : Stmt := topS 75
theorem sc__law_pass : FnScope ["stream", "index", "satellites", "stations", "horizon", "first", "end", "numbers"] ["stream", "index", "satellites", "stations", "horizon"] (defScope s__law_pass) := ⟨rfl, rfl, rfl, by decide +kernel, rfl, by decide +kernel, by decide +kernel⟩
abbrev s__law_world : Stmt := topS 76
theorem sc__law_world : FnScope ["script", "stream", "horizon", "satellites", "stations", "recordings", "passes", "world", "k"] ["script"] (defScope s__law_world) := ⟨rfl, rfl, rfl, by decide +kernel, rfl, by decide +kernel, by decide +kernel⟩
def spanPy (q : Int × Int) : PyData := .tuple [.int q.1, .int q.2]
def satPy (s : SatD) : PyData := .tuple [.str s.name, .tuple [.int s.store, .int s.battery, .int s.level, .int s.reserve, .int s.charge, .int s.settle], .tuple (s.light.map spanPy)]
def staPy (s : StaD) : PyData := .tuple [.str s.name, .int s.antennas, .int s.turn]
def recPy (r : RecD) : PyData := .tuple [.str r.name, .int (r.sat : Int), .tuple [.int r.earliest, .int r.latest, .int r.length, .int r.size, .int r.energy], .tuple [.int r.worth, .int r.rank, .int r.deadline]]
def pasPy (p : PasD) : PyData := .tuple [.str p.name, .int (p.sat : Int), .int (p.sta : Int), .tuple [.int p.first, .int p.fin], .tuple [.int p.room, .int p.energy, .int p.fee]]
mutual
theorem dp_map {K : PySem.W.Frag} {H H' : Hp} (fT : ∀ b xs, SqT K H b xs → SqT K H' b xs) (fL : ∀ b xs, SqL K H b xs → SqL K H' b xs) : ∀ {v : V} {d : PyData}, Dp K H v d → Dp K H' v d
  | _, _, .non => .non
  | _, _, .bl b => .bl b
  | _, _, .int i => .int i
  | _, _, .str x => .str x
  | _, _, .lst h t => .lst (fL _ _ h) (dpAll_map fT fL t)
  | _, _, .tup h t => .tup (fT _ _ h) (dpAll_map fT fL t)
theorem dpAll_map {K : PySem.W.Frag} {H H' : Hp} (fT : ∀ b xs, SqT K H b xs → SqT K H' b xs) (fL : ∀ b xs, SqL K H b xs → SqL K H' b xs) : ∀ {xs : List V} {ds : List PyData}, DpAll K H xs ds → DpAll K H' xs ds
  | _, _, .nil => .nil
  | _, _, .cons a t => .cons (dp_map fT fL a) (dpAll_map fT fL t)
end
theorem dp_same {K : PySem.W.Frag} {H H' : Hp} (s : Same H H') {v : V} {d : PyData} (h : Dp K H v d) : Dp K H' v d := dp_map (fun _ _ => Same.tup s) (fun _ _ => s.seq) h
theorem dpAll_same {K : PySem.W.Frag} {H H' : Hp} (s : Same H H') {xs : List V} {ds : List PyData} (h : DpAll K H xs ds) : DpAll K H' xs ds := dpAll_map (fun _ _ => Same.tup s) (fun _ _ => s.seq) h
mutual
def noL : PyData → Prop
  | .list _ => False
  | .tuple ds => noLs ds
  | _ => True
def noLs : List PyData → Prop
  | [] => True
  | d :: ds => noL d ∧ noLs ds
end
mutual
theorem dpT_map {K : PySem.W.Frag} {H H' : Hp} (fT : ∀ b xs, SqT K H b xs → SqT K H' b xs) : ∀ {v : V} {d : PyData}, noL d → Dp K H v d → Dp K H' v d
  | _, _, _, .non => .non
  | _, _, _, .bl b => .bl b
  | _, _, _, .int i => .int i
  | _, _, _, .str x => .str x
  | _, _, n, .lst h t => False.elim (by unfold noL at n; exact n)
  | _, _, n, .tup h t => .tup (fT _ _ h) (dpTs_map fT (by unfold noL at n; exact n) t)
theorem dpTs_map {K : PySem.W.Frag} {H H' : Hp} (fT : ∀ b xs, SqT K H b xs → SqT K H' b xs) : ∀ {xs : List V} {ds : List PyData}, noLs ds → DpAll K H xs ds → DpAll K H' xs ds
  | _, _, _, .nil => .nil
  | _, _, n, .cons a t => .cons (dpT_map fT (by unfold noLs at n; exact n.1) a) (dpTs_map fT (by unfold noLs at n; exact n.2) t)
end
theorem noLs_map {α : Type} {f : α → PyData} (h : ∀ a, noL (f a)) : ∀ l : List α, noLs (l.map f)
  | [] => by show noLs []; unfold noLs; trivial
  | a :: r => by show noLs (f a :: r.map f); unfold noLs; exact ⟨h a, noLs_map h r⟩
theorem noL_span (q : Int × Int) : noL (spanPy q) := by unfold spanPy; simp [noL, noLs]
theorem noL_sat (s : SatD) : noL (satPy s) := by
  unfold satPy
  have := noLs_map noL_span s.light
  simp [noL, noLs, this]
theorem noL_sta (s : StaD) : noL (staPy s) := by unfold staPy; simp [noL, noLs]
theorem noL_rec (s : RecD) : noL (recPy s) := by unfold recPy; simp [noL, noLs]
theorem noL_pas (s : PasD) : noL (pasPy s) := by unfold pasPy; simp [noL, noLs]
theorem dpAll_snoc {K : PySem.W.Frag} {H : Hp} : ∀ {xs : List V} {ds : List PyData} {x : V} {d : PyData}, DpAll K H xs ds → Dp K H x d → DpAll K H (xs ++ [x]) (ds ++ [d])
  | _, _, _, _, .nil, h => .cons h .nil
  | _, _, _, _, .cons a t, h => .cons a (dpAll_snoc t h)
/-- tuples stay where a list is changed -/
theorem dpTs_up {K : PySem.W.Frag} {H : Hp} {L : Addr} {ys xs : List V} {ds : List PyData} {o : HO} (n : noLs ds) (e : H L = some (.lst ys)) (h : DpAll K H xs ds) : DpAll K (upd H L o) xs ds := dpTs_map (fun _ _ z => sqT_upd z e) n h
theorem dpT_up {K : PySem.W.Frag} {H : Hp} {L : Addr} {ys : List V} {v : V} {d : PyData} {o : HO} (n : noL d) (e : H L = some (.lst ys)) (h : Dp K H v d) : Dp K (upd H L o) v d := dpT_map (fun _ _ z => sqT_upd z e) n h
theorem spans_dp {K : PySem.W.Frag} {H : Hp} {xs : List V} {qs : List (Int × Int)} (h : Spans K H xs qs) : DpAll K H xs (qs.map spanPy) := by
  induction h with
  | nil => exact .nil
  | cons a _ ih =>
    obtain ⟨t, rfl, ht⟩ := a
    exact .cons (.tup ht (.cons (.int _) (.cons (.int _) .nil))) ih
/-- the end of the last span -/
def lastE : Int → List (Int × Int) → Int
  | a, [] => a
  | _, q :: r => lastE q.2 r
theorem LightOk.snoc {h : Int} {q : Int × Int} : ∀ {l : List (Int × Int)} {a : Int}, LightOk a h l → lastE a l ≤ q.1 → q.1 + 1 ≤ q.2 → q.2 ≤ h → LightOk a h (l ++ [q])
  | [], a, _, h1, h2, h3 => ⟨h1, h2, h3, trivial⟩
  | p :: r, a, ⟨g1, g2, g3, g4⟩, h1, h2, h3 => ⟨g1, g2, g3, g4.snoc h1 h2 h3⟩
theorem lastE_snoc {q : Int × Int} : ∀ (l : List (Int × Int)) (a : Int), lastE a (l ++ [q]) = q.2
  | [], _ => rfl
  | p :: r, _ => lastE_snoc r p.2
section
variable {P : Program} {w : World} {K : PySem.W.Frag} {mg : Str → Option Value} {base : Heap}
theorem sz2 : 2 ≤ sizeLine := by decide
theorem sz3 : 3 ≤ sizeLine := by decide
theorem sz4 : 4 ≤ sizeLine := by decide
theorem sz5 : 5 ≤ sizeLine := by decide
theorem sz6 : 6 ≤ sizeLine := by decide
def spGSat (K : PySem.W.Frag) : Sp := fun vs H Q _ => ∃ (st : Addr) (i : Nat) (h : Int), vs = [.ref st, .int (i : Int), .int h] ∧ i < 10 ∧ 1 ≤ h ∧ h ≤ 80 ∧ Strm H st ∧ ∀ x s H', Same H H' → SatOk h s → WordAt i s.name → Dp K H' x (satPy s) → s.level ≤ 1000 → Q x H'
theorem d_gsat (B : Bt mg) (D_law_next : DefOk P w K mg base CX0 1 "_law_next" ["stream", "many"] spNext) (D_law_word : DefOk P w K mg base CX0 2 "_law_word" ["stream", "index"] spWord)
    (A : At K mg "_law_satellite" s__law_satellite ["stream", "index", "horizon"]) : DefOk P w K mg base CX0 3 "_law_satellite" ["stream", "index", "horizon"] (spGSat K) := by
  refine A.ok sc__law_satellite (fun vs H Q E h => ?_) (fun f cdv A outer s H vs Q E hr h => ?_)
  · obtain ⟨st, i, h, rfl, _⟩ := h
    rfl
  obtain ⟨st, i, h, rfl, hi, h1, h80, hst, q⟩ := h
  refine ⟨_, pss_cons (ps_set (i := 3) sc__law_satellite.nd rfl (Or.inl rfl) (pe_f D_law_next (hr.mono (by omega)) pass0 (pa_cons (pv 0) (pa_cons pe_int pa_nil))))
  (pss_cons (ps_set (i := 4) sc__law_satellite.nd rfl (Or.inl rfl) (pe_op op_add pe_int (pe_f D_law_next (hr.mono (by omega)) pass0 (pa_cons (pv 0) (pa_cons pe_int pa_nil)))))
  (pss_cons (ps_set (i := 5) sc__law_satellite.nd rfl (Or.inl rfl) (pe_op op_mod (pe_f D_law_next (hr.mono (by omega)) pass0 (pa_cons (pv 0) (pa_cons pe_int pa_nil))) (pe_op op_add (pv 4) pe_int)))
  (pss_cons (ps_set (i := 6) sc__law_satellite.nd rfl (Or.inl rfl) (pe_op op_mod (pe_f D_law_next (hr.mono (by omega)) pass0 (pa_cons (pv 0) (pa_cons pe_int pa_nil))) (pe_op op_add (pe_op op_fdiv (pv 5) pe_int) pe_int)))
  (pss_cons (ps_set (i := 7) sc__law_satellite.nd rfl (Or.inl rfl) (pe_lst pa_nil))
  (pss_cons (ps_set (i := 8) sc__law_satellite.nd rfl (Or.inl rfl) pe_int)
  (pss_cons (ps_for PassesOwn.never rfl (pi_range1 (by rfl) B.range (pa_cons (pe_f D_law_next (hr.mono (by omega)) pass0 (pa_cons (pv 0) (pa_cons pe_int pa_nil))) pa_nil)) (pg_name (i := 9) sc__law_satellite.nd rfl (Or.inl rfl))
      (pss_cons (ps_set (i := 10) sc__law_satellite.nd rfl (Or.inl rfl) (pe_op op_add (pv 8) (pe_f D_law_next (hr.mono (by omega)) pass0 (pa_cons (pv 0) (pa_cons pe_int pa_nil)))))
      (pss_cons (ps_set (i := 11) sc__law_satellite.nd rfl (Or.inl rfl) (pe_op op_add (pe_op op_add (pv 10) pe_int) (pe_f D_law_next (hr.mono (by omega)) pass0 (pa_cons (pv 0) (pa_cons pe_int pa_nil)))))
      (pss_one (ps_if (pt_cmpR op_le (pv 11) (pv 2) (nomark _))
          (pss_cons (ps_expr (pe_bm PySem.F.plainAttrs_list PySem.F.slot_list_append PySem.F.type_list_append mt_append (pv 7) (pa_cons (pe_tup (pa_cons (pv 10) (pa_cons (pv 11) pa_nil))) pa_nil)))
          (pss_one (ps_set (i := 8) sc__law_satellite.nd rfl (Or.inl rfl) (pv 11))))
          (pss_nil))))))
  (pss_cons (ps_set (i := 12) sc__law_satellite.nd rfl (Or.inl rfl) (pe_tup (pa_cons (pv 3) (pa_cons (pv 4) (pa_cons (pv 5) (pa_cons (pv 6) (pa_cons (pe_f D_law_next (hr.mono (by omega)) pass0 (pa_cons (pv 0) (pa_cons pe_int pa_nil))) (pa_cons (pe_f D_law_next (hr.mono (by omega)) pass0 (pa_cons (pv 0) (pa_cons pe_int pa_nil))) pa_nil))))))))
  (pss_one (ps_ret (pe_tup (pa_cons (pe_f D_law_word (hr.mono (by omega)) pass0 (pa_cons (pv 0) (pa_cons (pv 1) pa_nil))) (pa_cons (pv 12) (pa_cons (pe_callTy (call_tuple_of) (by rfl) B.tuple (by decide +kernel) (pa_cons (pv 7) pa_nil)) pa_nil)))))))))))))
    , ?_⟩
  refine ⟨_, rfl, st, 30, rfl, by decide, hst, fun so so0 so1 => ?_⟩
  refine ⟨_, rfl, st, 60, rfl, by decide, hst, fun ba ba0 ba1 => ⟨_, _, rfl, rfl, ?_⟩⟩
  refine ⟨_, rfl, st, 60, rfl, by decide, hst, fun le le0 le1 => ⟨_, rfl, _, _, rfl, rfl, _, _, rfl, rfl, (by show 0 < 10 + ba + 1; omega), ?_⟩⟩
  have lv0 : 0 ≤ le % (10 + ba + 1) := Int.emod_nonneg _ (by omega)
  have lv1 : le % (10 + ba + 1) < 10 + ba + 1 := Int.emod_lt_of_pos _ (by omega)
  obtain ⟨lev, elev⟩ : ∃ z, le % (10 + ba + 1) = z := ⟨_, rfl⟩
  rw [elev] at lv0 lv1
  refine ⟨_, rfl, st, 60, rfl, by decide, hst, fun re re0 re1 => ⟨_, rfl, _, _, rfl, rfl, ⟨by decide, by decide⟩, _, _, rfl, rfl, _, _, rfl, rfl, (by show 0 < le % (10 + ba + 1) / 3 + 1; omega), ?_⟩⟩
  have rv0 : 0 ≤ re % (le % (10 + ba + 1) / 3 + 1) := Int.emod_nonneg _ (by omega)
  have rv1 : re % (le % (10 + ba + 1) / 3 + 1) < le % (10 + ba + 1) / 3 + 1 := Int.emod_lt_of_pos _ (by omega)
  refine ⟨Nat.zero_le _, fun L hL => ?_⟩
  have hst1 := hst.same (same_new hL (.lst []))
  refine ⟨_, rfl, st, 4, rfl, by decide, hst1, fun kn kn0 kn1 => ?_⟩
  refine ⟨kn, rfl, by omega, by omega, for_range (n := kn.toNat) (fun j σ H' => ∃ (ls : List V) (qs : List (Int × Int)) (le' : Int) (y9 y10 y11 : Option V), σ = [some (.ref st), some (.int (i : Int)), some (.int h), some (.int so), some (.int (10 + ba)), some (.int (le % (10 + ba + 1))), some (.int (re % (le % (10 + ba + 1) / 3 + 1))), some (.ref L), some (.int le'), y9, y10, y11, none] ∧
    0 ≤ le' ∧ le' = lastE 0 qs ∧ qs.length ≤ j ∧ LightOk 0 h qs ∧ H' L = some (.lst ls) ∧ Spans K H' ls qs ∧ Same H H') ⟨[], [], 0, none, none, none, rfl, Int.le_refl 0, rfl, Nat.le_refl _, trivial, upd_same, .nil, same_new hL _⟩ (fun j σ H1 hj hI => ?_) (fun σ H1 hI => ?_)⟩
  · obtain ⟨ls, qs, le', y9, y10, y11, rfl, hl0, hll, hql, hok, hLL, hsp, hs⟩ := hI
    have hstj := hst.same hs
    refine ⟨_, rfl, _, rfl, st, 12, rfl, by decide, hstj, fun u u0 u1 => ⟨_, _, rfl, rfl, ?_⟩⟩
    refine ⟨_, rfl, _, _, rfl, rfl, _, rfl, st, 15, rfl, by decide, hstj, fun v v0 v1 => ⟨_, _, rfl, rfl, ?_⟩⟩
    refine ⟨_, rfl, _, rfl, _, _, rfl, rfl, _, rfl, ite2 (fun c => ?_) (fun c => ?_)⟩
    · have c' : le' + u + 1 + v ≤ h := of_decide_eq_true c
      refine ⟨_, rfl, .inl ⟨rfl, _, SqL.of hLL⟩, _, rfl, _, rfl, sz2, fun t ht => ?_⟩
      have eLt : L ≠ t := ne_of_none hLL ht
      have hLt : (upd H1 t (.tup [.int (le' + u), .int (le' + u + 1 + v)])) L = some (.lst ls) := by rw [upd_ne eLt]; exact hLL
      refine ⟨L, ls, .ref t, rfl, rfl, hLt, by rw [paired_len hsp]; exact small1000 (by omega), ?_⟩
      refine ⟨_, rfl, ls ++ [.ref t], qs ++ [(le' + u, le' + u + 1 + v)], _, _, _, _, rfl, by omega, by rw [lastE_snoc], by rw [List.length_append, List.length_singleton]; omega, ?_, upd_same, ?_, same_at hL (hs.trans (same_new ht _)) _⟩
      · exact hok.snoc (by rw [← hll]; show le' ≤ le' + u; omega) (by show le' + u + 1 ≤ le' + u + 1 + v; omega) c'
      · exact Spans.upd (paired_snoc (hsp.same (same_new ht _)) ⟨t, rfl, SqT.of upd_same⟩) hLt
    · exact ⟨ls, qs, le', _, _, _, rfl, hl0, hll, by omega, hok, hLL, hsp, hs⟩
  · obtain ⟨ls, qs, le', y9, y10, y11, rfl, hl0, hll, hql, hok, hLL, hsp, hs⟩ := hI
    have hstj := hst.same hs
    refine ⟨_, rfl, _, rfl, _, rfl, _, rfl, _, rfl, st, 5, rfl, by decide, hstj, fun ch ch0 ch1 => ⟨_, rfl, st, 4, rfl, by decide, hstj, fun se se0 se1 => ⟨sz6, fun t ht => ?_⟩⟩⟩
    have sA := same_new ht (.tup [.int so, .int (10 + ba), .int (le % (10 + ba + 1)), .int (re % (le % (10 + ba + 1) / 3 + 1)), .int ch, .int se])
    refine ⟨_, rfl, _, rfl, st, i, rfl, hi, hstj.same sA, fun u H2 s2 hu => ?_⟩
    have hL2 := s2 _ _ (sA _ _ hLL)
    refine ⟨_, rfl, _, rfl, L, ls, rfl, .inl ⟨SqL.of hL2, fun t2 ht2 => ⟨sz3, fun r hr' => ?_⟩⟩⟩
    have sB := same_new ht2 (.tup ls)
    have sC := same_new hr' (.tup [.str u, .ref t, .ref t2])
    have sAll := s2.trans (sB.trans sC)
    refine q (.ref r) ⟨u, so, 10 + ba, le % (10 + ba + 1), re % (le % (10 + ba + 1) / 3 + 1), ch, se, qs⟩ _ (hs.trans (sA.trans sAll)) ⟨hu.ok, by show 0 ≤ so ∧ so ≤ 1000000; omega, by show 0 ≤ 10 + ba ∧ 10 + ba ≤ 1000000; omega, by show 0 ≤ le % (10 + ba + 1) ∧ le % (10 + ba + 1) ≤ 10 + ba; omega, by show 0 ≤ re % (le % (10 + ba + 1) / 3 + 1) ∧ re % (le % (10 + ba + 1) / 3 + 1) ≤ le % (10 + ba + 1); omega, by show 0 ≤ ch ∧ ch ≤ 1000; omega, by show 0 ≤ se ∧ se ≤ 60; omega, hok⟩ hu ?_ (by show le % (10 + ba + 1) ≤ 1000; rw [elev]; omega)
    refine .tup (SqT.of upd_same) (.cons (.str _) (.cons (.tup (SqT.of (sAll _ _ upd_same)) (.cons (.int _) (.cons (.int _) (.cons (.int _) (.cons (.int _) (.cons (.int _) (.cons (.int _) .nil))))))) (.cons (.tup (SqT.of (sC _ _ upd_same)) ?_) .nil)))
    exact spans_dp ((hsp.same sA).same sAll)
def spGRec (K : PySem.W.Frag) : Sp := fun vs H Q _ => ∃ (st : Addr) (i n : Nat) (h : Int), vs = [.ref st, .int (i : Int), .int (n : Int), .int h] ∧ i < 10 ∧ 0 < n ∧ 1 ≤ h ∧ h ≤ 80 ∧ Strm H st ∧
  ∀ x r H', Same H H' → (∀ W : WorldD, W.sats.length = n → W.horizon = h → RecOk W r) → WordAt i r.name → Dp K H' x (recPy r) → Q x H'
theorem at5 {v : Int} (h0 : 0 ≤ v) (h1 : v < 5) : ∃ m : Int, atI ([V.int 0, V.int 0, V.int 1, V.int 2, V.int 5] : List V) v = some (.int m) ∧ 0 ≤ m ∧ m ≤ 5 := by
  have all : ∀ j, j < 5 → ∃ m : Int, ([0, 0, 1, 2, 5] : List Int)[j]? = some m ∧ 0 ≤ m ∧ m ≤ 5 := fun j hj => by
    refine ⟨([0, 0, 1, 2, 5] : List Int)[j], List.getElem?_eq_getElem _, ?_⟩
    have al : ∀ c ∈ ([0, 0, 1, 2, 5] : List Int), 0 ≤ c ∧ c ≤ 5 := by decide
    exact al _ (List.getElem_mem _)
  obtain ⟨m, e, b⟩ := all v.toNat (by omega)
  have := atI_nat (xs := ([0, 0, 1, 2, 5] : List Int).map V.int) (j := v.toNat) (v := .int m) (by rw [List.getElem?_map, e]; rfl)
  rw [show ((v.toNat : Nat) : Int) = v by omega] at this
  exact ⟨m, this, b⟩
theorem at3 {v : Int} (h0 : 0 ≤ v) (h1 : v < 3) : ∃ m : Int, atI ([V.int 60, V.int 40, V.int 30] : List V) v = some (.int m) ∧ 0 ≤ m ∧ m ≤ 60 := by
  have all : ∀ j, j < 3 → ∃ m : Int, ([60, 40, 30] : List Int)[j]? = some m ∧ 0 ≤ m ∧ m ≤ 60 := fun j hj => by
    refine ⟨([60, 40, 30] : List Int)[j], List.getElem?_eq_getElem _, ?_⟩
    have al : ∀ c ∈ ([60, 40, 30] : List Int), 0 ≤ c ∧ c ≤ 60 := by decide
    exact al _ (List.getElem_mem _)
  obtain ⟨m, e, b⟩ := all v.toNat (by omega)
  have := atI_nat (xs := ([60, 40, 30] : List Int).map V.int) (j := v.toNat) (v := .int m) (by rw [List.getElem?_map, e]; rfl)
  rw [show ((v.toNat : Nat) : Int) = v by omega] at this
  exact ⟨m, this, b⟩
theorem min_at {i j n : Int} : ∃ m, (if j < i then j else i) = m ∧ m ≤ i ∧ m ≤ j ∧ (m = i ∨ m = j) := by
  refine ⟨_, rfl, ?_⟩
  split <;> omega
theorem d_grec (B : Bt mg) (D_law_next : DefOk P w K mg base CX0 1 "_law_next" ["stream", "many"] spNext) (D_law_word : DefOk P w K mg base CX0 2 "_law_word" ["stream", "index"] spWord)
    (A : At K mg "_law_recording" s__law_recording ["stream", "index", "satellites", "horizon"]) : DefOk P w K mg base CX0 3 "_law_recording" ["stream", "index", "satellites", "horizon"] (spGRec K) := by
  refine A.ok sc__law_recording (fun vs H Q E h => ?_) (fun f cdv A outer s H vs Q E hr h => ?_)
  · obtain ⟨st, i, n, h, rfl, _⟩ := h
    rfl
  obtain ⟨st, i, n, h, rfl, hi, hn, h1, h80, hst, q⟩ := h
  refine ⟨_, pss_cons (ps_set (i := 4) sc__law_recording.nd rfl (Or.inl rfl) (pe_op op_mod (pe_f D_law_next (hr.mono (by omega)) pass0 (pa_cons (pv 0) (pa_cons pe_int pa_nil))) (pv 3)))
  (pss_cons (ps_set (i := 5) sc__law_recording.nd rfl (Or.inl rfl) (pe_callB (call_min2 rfl) (by rfl) B.min (by decide +kernel) (pa_cons (pe_op op_add (pv 4) (pe_ix ix_list (pe_lst (pa_cons pe_int (pa_cons pe_int (pa_cons pe_int (pa_cons pe_int (pa_cons pe_int pa_nil)))))) (pe_f D_law_next (hr.mono (by omega)) pass0 (pa_cons (pv 0) (pa_cons pe_int pa_nil))) (fun _ _ => rfl))) (pa_cons (pe_op op_sub (pv 3) pe_int) pa_nil))))
  (pss_cons (ps_set (i := 6) sc__law_recording.nd rfl (Or.inl rfl) (pe_op op_add pe_int (pe_op op_mod (pe_f D_law_next (hr.mono (by omega)) pass0 (pa_cons (pv 0) (pa_cons pe_int pa_nil))) (pe_op op_sub (pv 3) (pv 5)))))
  (pss_cons (ps_set (i := 7) sc__law_recording.nd rfl (Or.inl rfl) (pe_callB (call_min2 rfl) (by rfl) B.min (by decide +kernel) (pa_cons (pv 3) (pa_cons (pe_op op_add (pe_ix ix_list (pe_lst (pa_cons pe_int (pa_cons pe_int (pa_cons pe_int pa_nil)))) (pe_f D_law_next (hr.mono (by omega)) pass0 (pa_cons (pv 0) (pa_cons pe_int pa_nil))) (fun _ _ => rfl)) (pe_f D_law_next (hr.mono (by omega)) pass0 (pa_cons (pv 0) (pa_cons pe_int pa_nil)))) pa_nil))))
  (pss_cons (ps_set (i := 8) sc__law_recording.nd rfl (Or.inl rfl) (pe_tup (pa_cons (pv 4) (pa_cons (pv 5) (pa_cons (pv 6) (pa_cons (pe_f D_law_next (hr.mono (by omega)) pass0 (pa_cons (pv 0) (pa_cons pe_int pa_nil))) (pa_cons (pe_f D_law_next (hr.mono (by omega)) pass0 (pa_cons (pv 0) (pa_cons pe_int pa_nil))) pa_nil)))))))
  (pss_cons (ps_set (i := 9) sc__law_recording.nd rfl (Or.inl rfl) (pe_tup (pa_cons (pe_op op_add pe_int (pe_f D_law_next (hr.mono (by omega)) pass0 (pa_cons (pv 0) (pa_cons pe_int pa_nil)))) (pa_cons (pe_op op_add pe_int (pe_f D_law_next (hr.mono (by omega)) pass0 (pa_cons (pv 0) (pa_cons pe_int pa_nil)))) (pa_cons (pv 7) pa_nil)))))
  (pss_one (ps_ret (pe_tup (pa_cons (pe_f D_law_word (hr.mono (by omega)) pass0 (pa_cons (pv 0) (pa_cons (pv 1) pa_nil))) (pa_cons (pe_f D_law_next (hr.mono (by omega)) pass0 (pa_cons (pv 0) (pa_cons (pv 2) pa_nil))) (pa_cons (pv 8) (pa_cons (pv 9) pa_nil))))))))))))
    , ?_⟩
  refine ⟨_, rfl, st, 30, rfl, by decide, hst, fun ea ea0 ea1 => ⟨_, rfl, _, _, rfl, rfl, (by show 0 < h; omega), ?_⟩⟩
  have e0 : 0 ≤ ea % h := Int.emod_nonneg _ (by omega)
  have e1 : ea % h < h := Int.emod_lt_of_pos _ (by omega)
  refine ⟨_, rfl, sz5, fun pm hpm => ?_⟩
  have s1 := same_new hpm (.lst [.int 0, .int 0, .int 1, .int 2, .int 5])
  have hst1 := hst.same s1
  refine ⟨_, rfl, st, 5, rfl, by decide, hst1, fun v v0 v1 => ?_⟩
  obtain ⟨m, hm, m0, m5⟩ := at5 v0 v1
  refine ⟨pm, _, _, _, rfl, rfl, SqL.of upd_same, hm, _, _, rfl, rfl, _, rfl, _, _, rfl, rfl, _, _, rfl, ?_⟩
  obtain ⟨la, ela, la1, la2, la3⟩ := min_at (i := ea % h + m) (j := h - 1) (n := 0)
  have ela' : (if h - 1 < ea % h + m then h - 1 else ea % h + m) = la := ela
  refine ⟨_, rfl, st, 8, rfl, by decide, hst1, fun le le0 le1 => ⟨_, rfl, _, rfl, _, _, rfl, rfl, _, _, rfl, rfl, ?_, _, _, rfl, rfl, ?_⟩⟩
  · show 0 < h - (if h - 1 < ea % h + m then h - 1 else ea % h + m)
    rw [ela']
    omega
  have l0 : 0 ≤ le % (h - la) := Int.emod_nonneg _ (by omega)
  have l1 : le % (h - la) < h - la := Int.emod_lt_of_pos _ (by omega)
  refine ⟨_, rfl, sz3, fun pd hpd => ?_⟩
  have s2 := same_new hpd (.lst [.int 60, .int 40, .int 30])
  have hst2 := hst1.same s2
  refine ⟨_, rfl, st, 3, rfl, by decide, hst2, fun d d0 d1 => ?_⟩
  obtain ⟨dm, hdm, dm0, dm1⟩ := at3 d0 d1
  refine ⟨pd, _, _, _, rfl, rfl, SqL.of upd_same, hdm, _, rfl, st, 20, rfl, by decide, hst2, fun dd dd0 dd1 => ⟨_, _, rfl, rfl, _, _, rfl, ?_⟩⟩
  obtain ⟨de, ede, de1, de2, de3⟩ := min_at (i := h) (j := dm + dd) (n := 0)
  have ede' : (if dm + dd < h then dm + dd else h) = de := ede
  refine ⟨_, rfl, _, rfl, _, rfl, _, rfl, st, 16, rfl, by decide, hst2, fun si si0 si1 => ⟨_, rfl, st, 16, rfl, by decide, hst2, fun en en0 en1 => ⟨sz5, fun t1 ht1 => ?_⟩⟩⟩
  have hst3 := hst2.same (same_new ht1 (.tup [.int (ea % h), .int (if h - 1 < ea % h + m then h - 1 else ea % h + m), .int (1 + le % (h - if h - 1 < ea % h + m then h - 1 else ea % h + m)), .int si, .int en]))
  refine ⟨_, rfl, st, 30, rfl, by decide, hst3, fun wo wo0 wo1 => ⟨_, _, rfl, rfl, _, rfl, st, 3, rfl, by decide, hst3, fun ra ra0 ra1 => ⟨_, _, rfl, rfl, _, rfl, sz3, fun t2 ht2 => ?_⟩⟩⟩
  have s4 := same_new ht2 (.tup [.int (1 + wo), .int (1 + ra), .int (if dm + dd < h then dm + dd else h)])
  have hst4 := hst3.same s4
  refine ⟨_, rfl, _, rfl, st, i, rfl, hi, hst4, fun u H5 s5 hu => ⟨_, rfl, _, rfl, st, n, rfl, by omega, hst4.same s5, fun sa sa0 sa1 => ⟨_, rfl, _, rfl, sz4, fun r hr' => ?_⟩⟩⟩
  have s6 := same_new hr' (.tup [.str u, .int sa, .ref t1, .ref t2])
  have s3 := same_new ht1 (.tup [.int (ea % h), .int (if h - 1 < ea % h + m then h - 1 else ea % h + m), .int (1 + le % (h - if h - 1 < ea % h + m then h - 1 else ea % h + m)), .int si, .int en])
  refine q (.ref r) ⟨u, sa.toNat, ea % h, la, 1 + le % (h - la), si, en, 1 + wo, 1 + ra, de⟩ _ (s1.trans (s2.trans (s3.trans (s4.trans (s5.trans s6))))) (fun W wn wh => ?_) hu ?_
  · subst wh
    exact ⟨hu.ok, by show sa.toNat < W.sats.length; omega, by show 0 ≤ ea % W.horizon ∧ ea % W.horizon ≤ W.horizon - 1; omega, by show ea % W.horizon ≤ la ∧ la ≤ ea % W.horizon + 20 ∧ la ≤ W.horizon - 1; omega, by show 1 ≤ 1 + le % (W.horizon - la) ∧ 1 + le % (W.horizon - la) ≤ W.horizon - la; omega,
      by show 0 ≤ si ∧ si ≤ 1000000; omega, by show 0 ≤ en ∧ en ≤ 1000000; omega, by show 1 ≤ 1 + wo ∧ 1 + wo ≤ 1000; omega, by show 1 ≤ 1 + ra ∧ 1 + ra ≤ 3; omega, by show 0 ≤ de ∧ de ≤ W.horizon; omega⟩
  · have g1 := s6 _ _ (s5 _ _ (s4 _ _ (upd_same (H := upd (upd H pm (.lst [.int 0, .int 0, .int 1, .int 2, .int 5])) pd (.lst [.int 60, .int 40, .int 30])) (a := t1) (o := .tup [.int (ea % h), .int (if h - 1 < ea % h + m then h - 1 else ea % h + m), .int (1 + le % (h - if h - 1 < ea % h + m then h - 1 else ea % h + m)), .int si, .int en]))))
    have g2 := s6 _ _ (s5 _ _ (upd_same (H := upd (upd (upd H pm (.lst [.int 0, .int 0, .int 1, .int 2, .int 5])) pd (.lst [.int 60, .int 40, .int 30])) t1 (.tup [.int (ea % h), .int (if h - 1 < ea % h + m then h - 1 else ea % h + m), .int (1 + le % (h - if h - 1 < ea % h + m then h - 1 else ea % h + m)), .int si, .int en])) (a := t2) (o := .tup [.int (1 + wo), .int (1 + ra), .int (if dm + dd < h then dm + dd else h)])))
    rw [ela'] at g1
    rw [ede'] at g2
    have es : ((sa.toNat : Nat) : Int) = sa := by omega
    refine .tup (SqT.of upd_same) (.cons (.str _) (.cons ?_ (.cons (.tup (SqT.of g1) (.cons (.int _) (.cons (.int _) (.cons (.int _) (.cons (.int _) (.cons (.int _) .nil)))))) (.cons (.tup (SqT.of g2) (.cons (.int _) (.cons (.int _) (.cons (.int _) .nil)))) .nil))))
    rw [es]
    exact .int _
end
end DP
namespace DP
open PySem PySem.Spec PyProof.Rows L2
section
variable {P : Program} {w : World} {K : PySem.W.Frag} {mg : Str → Option Value} {base : Heap}
def spGPas (K : PySem.W.Frag) : Sp := fun vs H Q _ => ∃ (st : Addr) (i n m : Nat) (h : Int), vs = [.ref st, .int (i : Int), .int (n : Int), .int (m : Int), .int h] ∧ i < 10 ∧ 0 < n ∧ 0 < m ∧ 1 ≤ h ∧ h ≤ 80 ∧ Strm H st ∧
  ∀ x r H', Same H H' → (∀ W : WorldD, W.sats.length = n → W.stas.length = m → W.horizon = h → PasOk W r) → WordAt i r.name → Dp K H' x (pasPy r) → Q x H'
theorem d_gpas (B : Bt mg) (D_law_next : DefOk P w K mg base CX0 1 "_law_next" ["stream", "many"] spNext) (D_law_word : DefOk P w K mg base CX0 2 "_law_word" ["stream", "index"] spWord)
    (A : At K mg "_law_pass" s__law_pass ["stream", "index", "satellites", "stations", "horizon"]) : DefOk P w K mg base CX0 3 "_law_pass" ["stream", "index", "satellites", "stations", "horizon"] (spGPas K) := by
  refine A.ok sc__law_pass (fun vs H Q E h => ?_) (fun f cdv A outer s H vs Q E hr h => ?_)
  · obtain ⟨st, i, n, m, h, rfl, _⟩ := h
    rfl
  obtain ⟨st, i, n, m, h, rfl, hi, hn, hm, h1, h80, hst, q⟩ := h
  refine ⟨_, pss_cons (ps_set (i := 5) sc__law_pass.nd rfl (Or.inl rfl) (pe_op op_mod (pe_op op_add pe_int (pe_f D_law_next (hr.mono (by omega)) pass0 (pa_cons (pv 0) (pa_cons pe_int pa_nil)))) (pv 4)))
  (pss_cons (ps_set (i := 6) sc__law_pass.nd rfl (Or.inl rfl) (pe_callB (call_min2 rfl) (by rfl) B.min (by decide +kernel) (pa_cons (pv 4) (pa_cons (pe_op op_add (pe_op op_add (pv 5) pe_int) (pe_f D_law_next (hr.mono (by omega)) pass0 (pa_cons (pv 0) (pa_cons pe_int pa_nil)))) pa_nil))))
  (pss_cons (ps_set (i := 7) sc__law_pass.nd rfl (Or.inl rfl) (pe_tup (pa_cons (pe_f D_law_next (hr.mono (by omega)) pass0 (pa_cons (pv 0) (pa_cons pe_int pa_nil))) (pa_cons (pe_f D_law_next (hr.mono (by omega)) pass0 (pa_cons (pv 0) (pa_cons pe_int pa_nil))) (pa_cons (pe_f D_law_next (hr.mono (by omega)) pass0 (pa_cons (pv 0) (pa_cons pe_int pa_nil))) pa_nil)))))
  (pss_one (ps_ret (pe_tup (pa_cons (pe_f D_law_word (hr.mono (by omega)) pass0 (pa_cons (pv 0) (pa_cons (pv 1) pa_nil))) (pa_cons (pe_f D_law_next (hr.mono (by omega)) pass0 (pa_cons (pv 0) (pa_cons (pv 2) pa_nil))) (pa_cons (pe_f D_law_next (hr.mono (by omega)) pass0 (pa_cons (pv 0) (pa_cons (pv 3) pa_nil))) (pa_cons (pe_tup (pa_cons (pv 5) (pa_cons (pv 6) pa_nil))) (pa_cons (pv 7) pa_nil))))))))))
    , ?_⟩
  refine ⟨_, rfl, st, 45, rfl, by decide, hst, fun fi fi0 fi1 => ⟨_, _, rfl, rfl, _, rfl, _, _, rfl, rfl, (by show 0 < h; omega), ?_⟩⟩
  have e0 : 0 ≤ (10 + fi) % h := Int.emod_nonneg _ (by omega)
  have e1 : (10 + fi) % h < h := Int.emod_lt_of_pos _ (by omega)
  refine ⟨_, rfl, _, rfl, _, _, rfl, rfl, _, rfl, st, 12, rfl, by decide, hst, fun u u0 u1 => ⟨_, _, rfl, rfl, _, _, rfl, ?_⟩⟩
  obtain ⟨en, een, en1, en2, en3⟩ := min_at (i := h) (j := (10 + fi) % h + 1 + u) (n := 0)
  have een' : (if (10 + fi) % h + 1 + u < h then (10 + fi) % h + 1 + u else h) = en := een
  refine ⟨_, rfl, st, 30, rfl, by decide, hst, fun ro ro0 ro1 => ⟨_, rfl, st, 12, rfl, by decide, hst, fun eg eg0 eg1 => ⟨_, rfl, st, 6, rfl, by decide, hst, fun fe fe0 fe1 => ⟨sz3, fun t1 ht1 => ?_⟩⟩⟩⟩
  have s1 := same_new ht1 (.tup [.int ro, .int eg, .int fe])
  have hst1 := hst.same s1
  refine ⟨_, rfl, _, rfl, st, i, rfl, hi, hst1, fun nm H2 s2 hu => ⟨_, rfl, _, rfl, st, n, rfl, by omega, hst1.same s2, fun sa sa0 sa1 => ⟨_, rfl, _, rfl, st, m, rfl, by omega, hst1.same s2, fun ta ta0 ta1 => ?_⟩⟩⟩
  refine ⟨_, rfl, _, rfl, sz2, fun t2 ht2 => ⟨_, rfl, sz5, fun r hr' => ?_⟩⟩
  have s3 := same_new ht2 (.tup [.int ((10 + fi) % h), .int (if (10 + fi) % h + 1 + u < h then (10 + fi) % h + 1 + u else h)])
  have s4 := same_new hr' (.tup [.str nm, .int sa, .int ta, .ref t2, .ref t1])
  refine q (.ref r) ⟨nm, sa.toNat, ta.toNat, (10 + fi) % h, en, ro, eg, fe⟩ _ (s1.trans (s2.trans (s3.trans s4))) (fun W wn wm wh => ?_) hu ?_
  · subst wh
    exact ⟨hu.ok, by show sa.toNat < W.sats.length; omega, by show ta.toNat < W.stas.length; omega, by show 0 ≤ (10 + fi) % W.horizon ∧ (10 + fi) % W.horizon ≤ W.horizon - 1; omega, by show (10 + fi) % W.horizon + 1 ≤ en ∧ en ≤ W.horizon; omega,
      by show 0 ≤ ro ∧ ro ≤ 1000000; omega, by show 0 ≤ eg ∧ eg ≤ 1000000; omega, by show 0 ≤ fe ∧ fe ≤ 1000; omega⟩
  · have g1 := s4 _ _ (s3 _ _ (s2 _ _ (upd_same (H := H) (a := t1) (o := .tup [.int ro, .int eg, .int fe]))))
    have g2 := s4 _ _ (upd_same (H := H2) (a := t2) (o := .tup [.int ((10 + fi) % h), .int (if (10 + fi) % h + 1 + u < h then (10 + fi) % h + 1 + u else h)]))
    have es : ((sa.toNat : Nat) : Int) = sa := by omega
    have et : ((ta.toNat : Nat) : Int) = ta := by omega
    refine .tup (SqT.of upd_same) (.cons (.str _) (.cons ?_ (.cons ?_ (.cons (.tup (SqT.of (g2.trans (by rw [een']))) (.cons (.int _) (.cons (.int _) .nil))) (.cons (.tup (SqT.of g1) (.cons (.int _) (.cons (.int _) (.cons (.int _) .nil)))) .nil)))))
    · rw [es]; exact .int _
    · rw [et]; exact .int _
def wdK (h : Int) (a b c d : Addr) : List (Key × V) := [(.inr "horizon", .int h), (.inr "satellites", .ref a), (.inr "stations", .ref b), (.inr "recordings", .ref c), (.inr "passes", .ref d)]
theorem kd_ne {a b : Str} (h : (a == b) = false) : decide ((Sum.inr a : Key) = Sum.inr b) = false := decide_eq_false fun z => by
  have := Sum.inr.inj z
  rw [this, beq_self_eq_true] at h
  cases h
theorem put_any_no {kvs : List (Key × V)} {k : Key} {v : V} (h : kvs.any (fun kv => decide (kv.1 = k)) = false) : putK kvs k v = kvs ++ [(k, v)] := by
  unfold putK
  rw [if_neg (by rw [h]; exact Bool.false_ne_true)]
theorem any_miss {g k : Str} {x : V} {r : List (Key × V)} (h : (g == k) = false) (t : r.any (fun kv => decide (kv.1 = (Sum.inr k : Key))) = false) : ((Sum.inr g, x) :: r : List (Key × V)).any (fun kv => decide (kv.1 = (Sum.inr k : Key))) = false := by
  rw [List.any_cons, kd_ne h, t]
  rfl
theorem wd_merge (h : Int) (a b c d : Addr) : mergeK [] (wdK h a b c d) = wdK h a b c d := by
  have e1 : putK ([] : List (Key × V)) (.inr "horizon") (.int h) = [(.inr "horizon", .int h)] := put_any_no rfl
  have e2 : putK ([(.inr "horizon", .int h)] : List (Key × V)) (.inr "satellites") (.ref a) = [(.inr "horizon", .int h), (.inr "satellites", .ref a)] := put_any_no (any_miss (by decide +kernel) rfl)
  have e3 : putK ([(.inr "horizon", .int h), (.inr "satellites", .ref a)] : List (Key × V)) (.inr "stations") (.ref b) = [(.inr "horizon", .int h), (.inr "satellites", .ref a), (.inr "stations", .ref b)] :=
    put_any_no (any_miss (by decide +kernel) (any_miss (by decide +kernel) rfl))
  have e4 : putK ([(.inr "horizon", .int h), (.inr "satellites", .ref a), (.inr "stations", .ref b)] : List (Key × V)) (.inr "recordings") (.ref c) = [(.inr "horizon", .int h), (.inr "satellites", .ref a), (.inr "stations", .ref b), (.inr "recordings", .ref c)] :=
    put_any_no (any_miss (by decide +kernel) (any_miss (by decide +kernel) (any_miss (by decide +kernel) rfl)))
  have e5 : putK ([(.inr "horizon", .int h), (.inr "satellites", .ref a), (.inr "stations", .ref b), (.inr "recordings", .ref c)] : List (Key × V)) (.inr "passes") (.ref d) = wdK h a b c d :=
    put_any_no (any_miss (by decide +kernel) (any_miss (by decide +kernel) (any_miss (by decide +kernel) (any_miss (by decide +kernel) rfl))))
  unfold mergeK
  show putK (κ := Key) (putK (κ := Key) (putK (κ := Key) (putK (κ := Key) (putK (κ := Key) [] (.inr "horizon") (.int h)) (.inr "satellites") (.ref a)) (.inr "stations") (.ref b)) (.inr "recordings") (.ref c)) (.inr "passes") (.ref d) = _
  rw [e1, e2, e3, e4, e5]
theorem putK_hit {k : Str} {x v : V} {r : List (Key × V)} (hr : ∀ p ∈ r, p.1 ≠ (Sum.inr k : Key)) : putK ((Sum.inr k, x) :: r) (Sum.inr k) v = (Sum.inr k, v) :: r := by
  unfold putK
  rw [if_pos (by rw [List.any_cons, decide_eq_true rfl]; rfl), List.map_cons, if_pos rfl]
  congr 1
  exact (List.map_congr_left fun p hp => if_neg (hr p hp)).trans (List.map_id _)
theorem putK_miss {g k : Str} {x v : V} {r : List (Key × V)} (h : (g == k) = false) (hit : r.any (fun kv => decide (kv.1 = (Sum.inr k : Key))) = true) : putK ((Sum.inr g, x) :: r) (Sum.inr k) v = (Sum.inr g, x) :: putK r (Sum.inr k) v := by
  have hn : ¬ ((Sum.inr g : Key) = Sum.inr k) := fun z => by
    have := Sum.inr.inj z
    rw [this, beq_self_eq_true] at h
    cases h
  unfold putK
  rw [if_pos (by rw [List.any_cons, hit, Bool.or_true]), if_pos hit, List.map_cons, if_neg hn]
theorem any_hit {k : Str} {x : V} {r : List (Key × V)} : ((Sum.inr k, x) :: r : List (Key × V)).any (fun kv => decide (kv.1 = (Sum.inr k : Key))) = true := by
  rw [List.any_cons, decide_eq_true rfl]
  rfl
theorem any_later {g k : Str} {x : V} {r : List (Key × V)} (t : r.any (fun kv => decide (kv.1 = (Sum.inr k : Key))) = true) : ((Sum.inr g, x) :: r : List (Key × V)).any (fun kv => decide (kv.1 = (Sum.inr k : Key))) = true := by
  rw [List.any_cons, t, Bool.or_true]
theorem key_ne {a b : Str} (h : (a == b) = false) : (Sum.inr a : Key) ≠ Sum.inr b := fun z => by
  have := Sum.inr.inj z
  rw [this, beq_self_eq_true] at h
  cases h
theorem nin_nil {k : Str} : ∀ p ∈ ([] : List (Key × V)), p.1 ≠ (Sum.inr k : Key) := fun _ h => absurd h List.not_mem_nil
theorem nin_cons {g k : Str} {x : V} {r : List (Key × V)} (h : (g == k) = false) (t : ∀ p ∈ r, p.1 ≠ (Sum.inr k : Key)) : ∀ p ∈ ((Sum.inr g, x) :: r : List (Key × V)), p.1 ≠ (Sum.inr k : Key) := fun p hp => by
  rcases List.mem_cons.mp hp with rfl | hp
  · exact key_ne h
  · exact t p hp
theorem wd_putS (h : Int) (a b c d z : Addr) : putK (wdK h a b c d) (.inr "satellites") (.ref z) = wdK h z b c d := by
  unfold wdK
  rw [putK_miss (by decide +kernel) any_hit, putK_hit (nin_cons (by decide +kernel) (nin_cons (by decide +kernel) (nin_cons (by decide +kernel) nin_nil)))]
theorem wd_putT (h : Int) (a b c d z : Addr) : putK (wdK h a b c d) (.inr "stations") (.ref z) = wdK h a z c d := by
  unfold wdK
  rw [putK_miss (by decide +kernel) (any_later any_hit), putK_miss (by decide +kernel) any_hit, putK_hit (nin_cons (by decide +kernel) (nin_cons (by decide +kernel) nin_nil))]
theorem wd_putR (h : Int) (a b c d z : Addr) : putK (wdK h a b c d) (.inr "recordings") (.ref z) = wdK h a b z d := by
  unfold wdK
  rw [putK_miss (by decide +kernel) (any_later (any_later any_hit)), putK_miss (by decide +kernel) (any_later any_hit), putK_miss (by decide +kernel) any_hit, putK_hit (nin_cons (by decide +kernel) nin_nil)]
theorem wd_putP (h : Int) (a b c d z : Addr) : putK (wdK h a b c d) (.inr "passes") (.ref z) = wdK h a b c z := by
  unfold wdK
  rw [putK_miss (by decide +kernel) (any_later (any_later (any_later any_hit))), putK_miss (by decide +kernel) (any_later (any_later any_hit)), putK_miss (by decide +kernel) (any_later any_hit), putK_miss (by decide +kernel) any_hit, putK_hit nin_nil]
theorem valV_hit {k : Str} {x : V} {r : List (Key × V)} : valV ((Sum.inr k, x) :: r) (Sum.inr k : Key) = some x := valV_pos rfl
theorem valV_miss {g k : Str} {x : V} {r : List (Key × V)} (h : (g == k) = false) : valV ((Sum.inr g, x) :: r) (Sum.inr k : Key) = valV r (Sum.inr k : Key) := by
  unfold valV
  rw [List.find?_cons, kd_ne h]
theorem wd_h (h : Int) (a b c d : Addr) : valV (wdK h a b c d) (.inr "horizon") = some (.int h) := by unfold wdK; exact valV_hit
theorem wd_s (h : Int) (a b c d : Addr) : valV (wdK h a b c d) (.inr "satellites") = some (.ref a) := by unfold wdK; exact (valV_miss (by decide +kernel)).trans valV_hit
theorem wd_t (h : Int) (a b c d : Addr) : valV (wdK h a b c d) (.inr "stations") = some (.ref b) := by unfold wdK; exact (valV_miss (by decide +kernel)).trans ((valV_miss (by decide +kernel)).trans valV_hit)
theorem wd_r (h : Int) (a b c d : Addr) : valV (wdK h a b c d) (.inr "recordings") = some (.ref c) := by unfold wdK; exact (valV_miss (by decide +kernel)).trans ((valV_miss (by decide +kernel)).trans ((valV_miss (by decide +kernel)).trans valV_hit))
theorem wd_p (h : Int) (a b c d : Addr) : valV (wdK h a b c d) (.inr "passes") = some (.ref d) := by
  unfold wdK; exact (valV_miss (by decide +kernel)).trans ((valV_miss (by decide +kernel)).trans ((valV_miss (by decide +kernel)).trans ((valV_miss (by decide +kernel)).trans valV_hit)))
/-- the law's dict of a world -/
structure WdAt (K : PySem.W.Frag) (H : Hp) (wd : Addr) (W : WorldD) : Prop where
  ex : ∃ a b c d xa xb xc xd, H wd = some (.dK (wdK W.horizon a b c d)) ∧ H a = some (.lst xa) ∧ DpAll K H xa (W.sats.map satPy) ∧ H b = some (.lst xb) ∧ DpAll K H xb (W.stas.map staPy) ∧ H c = some (.lst xc) ∧ DpAll K H xc (W.recs.map recPy) ∧ H d = some (.lst xd) ∧ DpAll K H xd (W.pass.map pasPy)
theorem WdAt.same {H H' : Hp} {wd : Addr} {W : WorldD} (h : WdAt K H wd W) (s : Same H H') : WdAt K H' wd W := by
  obtain ⟨a, b, c, d, xa, xb, xc, xd, g, a1, a2, b1, b2, c1, c2, d1, d2⟩ := h.ex
  exact ⟨a, b, c, d, xa, xb, xc, xd, s _ _ g, s _ _ a1, dpAll_same s a2, s _ _ b1, dpAll_same s b2, s _ _ c1, dpAll_same s c2, s _ _ d1, dpAll_same s d2⟩
theorem sqT_updK {H : Hp} {t L : Addr} {xs : List V} {kvs : List (Key × V)} {o : HO} (h : SqT K H t xs) (e : H L = some (.dK kvs)) : SqT K (upd H L o) t xs := by
  rcases h with (h | ⟨u, h⟩) | h
  · exact .inl (.inl (by rw [upd_ne (ne_of h e (fun z => nomatch z))]; exact h))
  · exact .inl (.inr ⟨u, by rw [upd_ne (ne_of h e (fun z => nomatch z))]; exact h⟩)
  · exact .inr h
theorem dpTs_upK {H : Hp} {L : Addr} {xs : List V} {ds : List PyData} {kvs : List (Key × V)} {o : HO} (n : noLs ds) (e : H L = some (.dK kvs)) (h : DpAll K H xs ds) : DpAll K (upd H L o) xs ds := dpTs_map (fun _ _ z => sqT_updK z e) n h
/-- names by their places -/
def NamedBy {α : Type} (f : α → Str) (l : List α) : Prop := ∀ i s, l[i]? = some s → WordAt i (f s)
theorem NamedBy.nodup {α : Type} {f : α → Str} {l : List α} (h : NamedBy f l) : (l.map f).Nodup := by
  rw [List.nodup_iff_pairwise_ne, List.pairwise_iff_getElem]
  intro i j hi hj hij z
  rw [List.getElem_map, List.getElem_map] at z
  rw [List.length_map] at hi hj
  have h1 := h i _ (List.getElem?_eq_getElem hi)
  have h2 := h j _ (List.getElem?_eq_getElem hj)
  rw [z] at h1
  have := h1.inj h2
  omega
theorem NamedBy.snoc {α : Type} {f : α → Str} {l : List α} {s : α} (h : NamedBy f l) (k : WordAt l.length (f s)) : NamedBy f (l ++ [s]) := fun i t ht => by
  by_cases c : i < l.length
  · rw [List.getElem?_append_left c] at ht
    exact h i t ht
  · rw [List.getElem?_append_right (by omega)] at ht
    have e : i - l.length = 0 := by
      cases q : i - l.length with
      | zero => rfl
      | succ n => rw [q] at ht; cases ht
    rw [e] at ht
    have e2 : s = t := Option.some.inj ht
    have e3 : i = l.length := by omega
    rw [e3, ← e2]
    exact k
end
end DP
namespace DP
open PySem PySem.Spec PyProof.Rows L2
/-- what is known of a drawn world besides -/
structure WG (W : WorldD) : Prop where
  ok : WorldOk W
  h80 : W.horizon ≤ 80
  nR : W.recs.length ≤ 5
  nP : W.pass.length ≤ 5
  nT : 1 ≤ W.stas.length
  bS : NamedBy (·.name) W.sats
  bT : NamedBy (·.name) W.stas
  bR : NamedBy (·.name) W.recs
  bP : NamedBy (·.name) W.pass
  bL : ∀ s ∈ W.sats, s.level ≤ 1000
theorem noLs_sat (l : List SatD) : noLs (l.map satPy) := noLs_map noL_sat l
theorem noLs_sta (l : List StaD) : noLs (l.map staPy) := noLs_map noL_sta l
theorem noLs_rec (l : List RecD) : noLs (l.map recPy) := noLs_map noL_rec l
theorem noLs_pas (l : List PasD) : noLs (l.map pasPy) := noLs_map noL_pas l
theorem all_snoc {α : Type} {P : α → Prop} {l : List α} {a : α} (h : ∀ x ∈ l, P x) (k : P a) : ∀ x ∈ l ++ [a], P x := fun x hx => by
  rcases List.mem_append.mp hx with hx | hx
  · exact h x hx
  · rw [List.mem_singleton.mp hx]; exact k
section
variable {P : Program} {w : World} {K : PySem.W.Frag} {mg : Str → Option Value} {base : Heap}
def spWorld (K : PySem.W.Frag) : Sp := fun vs H Q _ => ∃ (a : Addr) (ns : List Int), vs = [.ref a] ∧ SqL K H a (ns.map V.int) ∧ ∀ wd H' W, H wd = none → Same H H' → WG W → WdAt K H' wd W → Q (.ref wd) H'
set_option maxHeartbeats 8000000 in
theorem d_world (B : Bt mg) (D_law_stream : DefOk P w K mg base CX0 2 "_law_stream" ["script", "first", "count"] (spStream K)) (D_law_next : DefOk P w K mg base CX0 1 "_law_next" ["stream", "many"] spNext) (D_law_word : DefOk P w K mg base CX0 2 "_law_word" ["stream", "index"] spWord)
    (D_law_satellite : DefOk P w K mg base CX0 3 "_law_satellite" ["stream", "index", "horizon"] (spGSat K)) (D_law_recording : DefOk P w K mg base CX0 3 "_law_recording" ["stream", "index", "satellites", "horizon"] (spGRec K)) (D_law_pass : DefOk P w K mg base CX0 3 "_law_pass" ["stream", "index", "satellites", "stations", "horizon"] (spGPas K))
    (A : At K mg "_law_world" s__law_world ["script"]) : DefOk P w K mg base CX0 4 "_law_world" ["script"] (spWorld K) := by
  refine A.ok sc__law_world (fun vs H Q E h => ?_) (fun f cdv A outer s H vs Q E hr h => ?_)
  · obtain ⟨a, ns, rfl, _⟩ := h
    rfl
  obtain ⟨a, ns, rfl, hS, q⟩ := h
  refine ⟨_, pss_cons (ps_set (i := 1) sc__law_world.nd rfl (Or.inr rfl) (pe_f D_law_stream (hr.mono (by omega)) pass0 (pa_cons (pv 0) (pa_cons pe_int (pa_cons pe_int pa_nil)))))
  (pss_cons (ps_set (i := 2) sc__law_world.nd rfl (Or.inr rfl) (pe_op op_add pe_int (pe_f D_law_next (hr.mono (by omega)) pass0 (pa_cons (pv 1) (pa_cons pe_int pa_nil)))))
  (C8.pss_cut (ps_if (pt_cmpR op_eq (pe_f D_law_next (hr.mono (by omega)) pass0 (pa_cons (pv 1) (pa_cons pe_int pa_nil))) pe_int (nomark _))
      (pss_one (ps_set (i := 2) sc__law_world.nd rfl (Or.inr rfl) (pe_op op_add pe_int (pe_f D_law_next (hr.mono (by omega)) pass0 (pa_cons (pv 1) (pa_cons pe_int pa_nil))))))
      (pss_nil))
  (pss_cons (ps_set (i := 3) sc__law_world.nd rfl (Or.inr rfl) (pe_op op_add (pe_op op_mod (pe_op op_fdiv (pe_f D_law_next (hr.mono (by omega)) pass0 (pa_cons (pv 1) (pa_cons pe_int pa_nil))) pe_int) pe_int) (pe_callTy (call_int1) (by rfl) B.int (by decide +kernel) (pa_cons (pe_cmpR op_gt (pe_f D_law_next (hr.mono (by omega)) pass0 (pa_cons (pv 1) (pa_cons pe_int pa_nil))) pe_int (nomark _)) pa_nil))))
  (pss_cons (ps_set (i := 4) sc__law_world.nd rfl (Or.inr rfl) (pe_op op_add pe_int (pe_op op_fdiv (pe_f D_law_next (hr.mono (by omega)) pass0 (pa_cons (pv 1) (pa_cons pe_int pa_nil))) pe_int)))
  (pss_cons (ps_set (i := 5) sc__law_world.nd rfl (Or.inl rfl) (pe_f D_law_next (hr.mono (by omega)) pass0 (pa_cons (pv 1) (pa_cons pe_int pa_nil))))
  (pss_cons (ps_set (i := 6) sc__law_world.nd rfl (Or.inl rfl) (pe_f D_law_next (hr.mono (by omega)) pass0 (pa_cons (pv 1) (pa_cons pe_int pa_nil))))
  (pss_cons (ps_set (i := 3) sc__law_world.nd rfl (Or.inr rfl) (pe_callB (call_min2 rfl) (by rfl) B.min (by decide +kernel) (pa_cons pe_int (pa_cons (pv 3) pa_nil))))
  (C8.pss_cut (ps_if (pt_cmpR op_eq (pv 3) pe_int (nomark _))
      (pss_cons (ps_set (i := 5) sc__law_world.nd rfl (Or.inl rfl) pe_int)
      (pss_one (ps_set (i := 6) sc__law_world.nd rfl (Or.inl rfl) pe_int)))
      (pss_nil))
  (pss_cons (ps_set (i := 7) sc__law_world.nd rfl (Or.inl rfl) (pe_disp (pps_cons pe_str (pv 2) (pps_cons pe_str (pe_lst pa_nil) (pps_cons pe_str (pe_lst pa_nil) (pps_cons pe_str (pe_lst pa_nil) (pps_cons pe_str (pe_lst pa_nil) pps_nil))))) (by rfl) (by rfl) (fun z => by cases z) (by decide)))
  (pss_cons (ps_dput (hu_of hr) (pv 7) pe_str (pe_lc (own := [("k", 8)])  rfl sc__law_world.nd (pi_range1 (by rfl) B.range (pa_cons (pv 3) pa_nil)) (blkOk_by (own := [("k", 8)]) (N := ["script", "stream", "horizon", "satellites", "stations", "recordings", "passes", "world", "k"]) (sc := defScope s__law_world) (by decide +kernel)) (fun _ _ _ _ _ => pg_name (i := 8) sc__law_world.nd rfl (Or.inl rfl)) (fun _ _ _ _ _ => pts_nil) (fun _ _ _ _ _ => (pe_f D_law_satellite (hr.mono (by omega)) pass0 (pa_cons (pv 1) (pa_cons (pv 8) (pa_cons (pv 2) pa_nil)))))) rfl)
  (pss_cons (ps_dput (hu_of hr) (pv 7) pe_str (pe_lc (own := [("k", 8)])  rfl sc__law_world.nd (pi_range1 (by rfl) B.range (pa_cons (pv 4) pa_nil)) (blkOk_by (own := [("k", 8)]) (N := ["script", "stream", "horizon", "satellites", "stations", "recordings", "passes", "world", "k"]) (sc := defScope s__law_world) (by decide +kernel)) (fun _ _ _ _ _ => pg_name (i := 8) sc__law_world.nd rfl (Or.inl rfl)) (fun _ _ _ _ _ => pts_nil) (fun _ _ _ _ _ => (pe_tup (pa_cons (pe_f D_law_word (hr.mono (by omega)) pass0 (pa_cons (pv 1) (pa_cons (pv 8) pa_nil))) (pa_cons (pe_op op_add pe_int (pe_op op_fdiv (pe_f D_law_next (hr.mono (by omega)) pass0 (pa_cons (pv 1) (pa_cons pe_int pa_nil))) pe_int)) (pa_cons (pe_f D_law_next (hr.mono (by omega)) pass0 (pa_cons (pv 1) (pa_cons pe_int pa_nil))) pa_nil)))))) rfl)
  (pss_cons (ps_dput (hu_of hr) (pv 7) pe_str (pe_lc (own := [("k", 8)])  rfl sc__law_world.nd (pi_range1 (by rfl) B.range (pa_cons (pv 5) pa_nil)) (blkOk_by (own := [("k", 8)]) (N := ["script", "stream", "horizon", "satellites", "stations", "recordings", "passes", "world", "k"]) (sc := defScope s__law_world) (by decide +kernel)) (fun _ _ _ _ _ => pg_name (i := 8) sc__law_world.nd rfl (Or.inl rfl)) (fun _ _ _ _ _ => pts_nil) (fun _ _ _ _ _ => (pe_f D_law_recording (hr.mono (by omega)) pass0 (pa_cons (pv 1) (pa_cons (pv 8) (pa_cons (pv 3) (pa_cons (pv 2) pa_nil))))))) rfl)
  (pss_cons (ps_dput (hu_of hr) (pv 7) pe_str (pe_lc (own := [("k", 8)])  rfl sc__law_world.nd (pi_range1 (by rfl) B.range (pa_cons (pv 6) pa_nil)) (blkOk_by (own := [("k", 8)]) (N := ["script", "stream", "horizon", "satellites", "stations", "recordings", "passes", "world", "k"]) (sc := defScope s__law_world) (by decide +kernel)) (fun _ _ _ _ _ => pg_name (i := 8) sc__law_world.nd rfl (Or.inl rfl)) (fun _ _ _ _ _ => pts_nil) (fun _ _ _ _ _ => (pe_f D_law_pass (hr.mono (by omega)) pass0 (pa_cons (pv 1) (pa_cons (pv 8) (pa_cons (pv 3) (pa_cons (pv 4) (pa_cons (pv 2) pa_nil)))))))) rfl)
  (pss_one (ps_ret (pv 7))))))))))))))))
    , ?_⟩
  refine ⟨_, rfl, a, ns, 0, 24, rfl, hS, by decide, by decide, by decide, fun st H1 hs1 _ hst => ?_⟩
  refine ⟨_, rfl, st, 41, rfl, by decide, hst, fun h0 h00 h01 => ⟨_, _, rfl, rfl, ?_⟩⟩
  refine ⟨fun σ' H' => H' = H1 ∧ ∃ h : Int, 1 ≤ h ∧ h ≤ 80 ∧ σ' = [some (.ref a), some (.ref st), some (.int h), none, none, none, none, none, none], ?_, fun σ' H' hm => ?_⟩
  · refine ⟨_, rfl, st, 8, rfl, by decide, hst, fun v v0 v1 => ⟨rfl, _, rfl, ite2 (fun c => ?_) (fun c => ?_)⟩⟩
    · exact ⟨_, rfl, st, 30, rfl, by decide, hst, fun u u0 u1 => ⟨_, _, rfl, rfl, rfl, 1 + u, by omega, by omega, rfl⟩⟩
    · exact ⟨rfl, 40 + h0, by omega, by omega, rfl⟩
  obtain ⟨rfl, h, h1, h80, rfl⟩ := hm
  refine ⟨_, rfl, st, 9, rfl, by decide, hst, fun v v0 v1 => ⟨_, _, rfl, rfl, ⟨by decide, by decide⟩, _, _, rfl, rfl, (by show (0 : Int) < 3; decide), _, rfl, st, 6, rfl, by decide, hst, fun u u0 u1 => ⟨_, _, rfl, rfl, .inr ⟨_, rfl, _, _, rfl, rfl, ?_⟩⟩⟩⟩
  obtain ⟨n0, en0⟩ : ∃ z : Int, v / 3 % 3 + (if decide (0 < u) = true then 1 else 0) = z := ⟨_, rfl⟩
  have bn0 : 0 ≤ n0 ∧ n0 ≤ 3 := by
    rw [← en0]
    split <;> omega
  refine ⟨_, rfl, st, 3, rfl, by decide, hst, fun t t0 t1 => ⟨_, _, rfl, rfl, ⟨by decide, by decide⟩, _, _, rfl, rfl, ?_⟩⟩
  refine ⟨_, rfl, st, 6, rfl, by decide, hst, fun r r0 r1 => ?_⟩
  refine ⟨_, rfl, st, 6, rfl, by decide, hst, fun p p0 p1 => ?_⟩
  refine ⟨_, rfl, _, _, rfl, ?_⟩
  obtain ⟨n, en⟩ : ∃ z : Int, (if v / 3 % 3 + (if decide (0 < u) = true then 1 else 0) < 3 then v / 3 % 3 + (if decide (0 < u) = true then 1 else 0) else 3) = z := ⟨_, rfl⟩
  have bn : 0 ≤ n ∧ n ≤ 3 := by
    rw [← en, en0]
    split <;> omega
  refine ⟨fun σ' H2 => H2 = H' ∧ ∃ r p : Int, 0 ≤ r ∧ r < 6 ∧ 0 ≤ p ∧ p < 6 ∧ (n = 0 → r = 0 ∧ p = 0) ∧ σ' = [some (.ref a), some (.ref st), some (.int h), some (.int n), some (.int (1 + t / 2)), some (.int r), some (.int p), none, none], ?_, fun σ' H2 hm => ?_⟩
  · refine ⟨_, rfl, rfl, _, rfl, ite2 (fun c => ?_) (fun c => ?_)⟩
    · refine ⟨rfl, 0, 0, by omega, by omega, by omega, by omega, fun _ => ⟨rfl, rfl⟩, ?_⟩
      rw [← en]
      rfl
    · refine ⟨rfl, r, p, by omega, by omega, by omega, by omega, fun z => absurd ?_ c, ?_⟩
      · refine decide_eq_true ?_
        show V.int (if v / 3 % 3 + (if decide (0 < u) = true then 1 else 0) < 3 then v / 3 % 3 + (if decide (0 < u) = true then 1 else 0) else 3) = V.int 0
        rw [en, z]
      · rw [← en]
        rfl
  clear en en0 bn0
  obtain ⟨rfl, r, p, r0, r1, p0, p1, hzero, rfl⟩ := hm
  -- the dict
  refine fun wd hwd => ⟨_, rfl, Nat.zero_le _, fun l1 hl1 => ⟨Nat.zero_le _, fun l2 hl2 => ⟨Nat.zero_le _, fun l3 hl3 => ⟨Nat.zero_le _, fun l4 hl4 => ?_⟩⟩⟩⟩
  have g1 := same_new hl1 (.lst [])
  have g2 := same_new hl2 (.lst [])
  have g3 := same_new hl3 (.lst [])
  have g4 := same_new hl4 (.lst [])
  have gA := g1.trans (g2.trans (g3.trans g4))
  refine ⟨gA _ _ upd_same, wdK h l1 l2 l3 l4, rfl, by show 5 ≤ 15; decide, ?_⟩
  rw [wd_merge]
  have s3 : Same H2 (upd (upd (upd (upd (upd (upd H2 wd (.dK [])) l1 (.lst [])) l2 (.lst [])) l3 (.lst [])) l4 (.lst [])) wd (.dK (wdK h l1 l2 l3 l4))) := same_at hwd ((same_new hwd _).trans gA) _
  have w3 : (upd (upd (upd (upd (upd (upd H2 wd (.dK [])) l1 (.lst [])) l2 (.lst [])) l3 (.lst [])) l4 (.lst [])) wd (.dK (wdK h l1 l2 l3 l4))) wd = some (.dK (wdK h l1 l2 l3 l4)) := upd_same
  generalize (upd (upd (upd (upd (upd (upd H2 wd (.dK [])) l1 (.lst [])) l2 (.lst [])) l3 (.lst [])) l4 (.lst [])) wd (.dK (wdK h l1 l2 l3 l4))) = H3 at s3 w3
  have hwd0 : H wd = none := hs1.free hwd
  -- satellites
  refine ⟨_, rfl, n, rfl, by omega, by omega, fun D1 hD1 => ?_⟩
  refine lc_range (lo := 0) (n := n.toNat) (fun i H' => ∃ (S : List SatD) (xs : List V), S.length = i ∧ H' D1 = some (.lst xs) ∧ xs.length = i ∧ DpAll K H' xs (S.map satPy) ∧ (∀ s ∈ S, SatOk h s ∧ s.level ≤ 1000) ∧ NamedBy (·.name) S ∧ Same H3 H')
    ⟨[], [], rfl, upd_same, rfl, .nil, fun _ z => absurd z List.not_mem_nil, fun i s z => by simp at z, same_new hD1 _⟩ (fun i H' hi hI => ?_) (fun H4 hI => ?_)
  · obtain ⟨S, xs, hl, hDD, hxl, hdp, hok, hnm, hs⟩ := hI
    refine ⟨rfl, _, rfl, _, rfl, _, rfl, st, i, h, by rw [Int.zero_add]; rfl, by omega, h1, h80, hst.same (s3.trans hs), fun x s H5 s5 ok5 nm5 dp5 lv5 => ?_⟩
    have d5 := s5 _ _ hDD
    refine ⟨xs, d5, by rw [hxl]; exact small1000 (by omega), S ++ [s], xs ++ [x], by rw [List.length_append, hl, List.length_singleton], upd_same, by rw [List.length_append, hxl, List.length_singleton], ?_, all_snoc hok ⟨ok5, lv5⟩, hnm.snoc (by rw [hl]; exact nm5), same_at hD1 (hs.trans s5) _⟩
    rw [List.map_append]
    exact dpAll_snoc (dpTs_up (noLs_sat S) d5 (dpAll_same s5 hdp)) (dpT_up (noL_sat s) d5 dp5)
  obtain ⟨S, xa, lS, dS, _, pS, okS, nmS, sS⟩ := hI
  have w4 := sS _ _ w3
  have n1 : D1 ≠ wd := ne_of dS w4 (fun z => nomatch z)
  refine ⟨_, rfl, wd, _, rfl, DPut.k (k := Sum.inr "satellites") w4 (by show 5 < sizeLine; decide), ?_⟩
  rw [wd_putS]
  have s5 : Same H2 (upd H4 wd (.dK (wdK h D1 l2 l3 l4))) := same_at hwd (s3.trans sS) _
  have w5 : (upd H4 wd (.dK (wdK h D1 l2 l3 l4))) wd = some (.dK (wdK h D1 l2 l3 l4)) := upd_same
  have a5 : (upd H4 wd (.dK (wdK h D1 l2 l3 l4))) D1 = some (.lst xa) := by rw [upd_ne n1]; exact dS
  have p5 : DpAll K (upd H4 wd (.dK (wdK h D1 l2 l3 l4))) xa (S.map satPy) := dpTs_upK (noLs_sat S) w4 pS
  generalize (upd H4 wd (.dK (wdK h D1 l2 l3 l4))) = H5 at s5 w5 a5 p5
  -- stations
  refine ⟨_, rfl, 1 + t / 2, rfl, by omega, by omega, fun D2 hD2 => ?_⟩
  refine lc_range (lo := 0) (n := (1 + t / 2).toNat) (fun i H' => ∃ (T : List StaD) (xs : List V), T.length = i ∧ H' D2 = some (.lst xs) ∧ xs.length = i ∧ DpAll K H' xs (T.map staPy) ∧ (∀ s ∈ T, StaOk s) ∧ NamedBy (·.name) T ∧ Same H5 H')
    ⟨[], [], rfl, upd_same, rfl, .nil, fun _ z => absurd z List.not_mem_nil, fun i s z => by simp at z, same_new hD2 _⟩ (fun i H' hi hI => ?_) (fun H6 hI => ?_)
  · obtain ⟨T, xs, hl, hDD, hxl, hdp, hok, hnm, hs⟩ := hI
    refine ⟨rfl, _, rfl, _, rfl, st, i, by rw [Int.zero_add]; rfl, by omega, hst.same (s5.trans hs), fun u H7 s7 nm7 => ?_⟩
    have hst7 := hst.same (s5.trans (hs.trans s7))
    refine ⟨_, rfl, st, 4, rfl, by decide, hst7, fun an an0 an1 => ⟨_, _, rfl, rfl, ⟨by decide, by decide⟩, _, _, rfl, rfl, _, rfl, st, 7, rfl, by decide, hst7, fun tu tu0 tu1 => ⟨sz3, fun x hx => ?_⟩⟩⟩
    have s8 := same_new hx (.tup [.str u, .int (1 + an / 3), .int tu])
    have d7 := s8 _ _ (s7 _ _ hDD)
    refine ⟨xs, d7, by rw [hxl]; exact small1000 (by omega), T ++ [⟨u, 1 + an / 3, tu⟩], xs ++ [.ref x], by rw [List.length_append, hl, List.length_singleton], upd_same, by rw [List.length_append, hxl, List.length_singleton], ?_, all_snoc hok ⟨nm7.ok, by show 1 ≤ 1 + an / 3 ∧ 1 + an / 3 ≤ 3; omega, by show 0 ≤ tu ∧ tu ≤ 60; omega⟩, hnm.snoc (by rw [hl]; exact nm7), same_at hD2 (hs.trans (s7.trans s8)) _⟩
    rw [List.map_append]
    exact dpAll_snoc (dpTs_up (noLs_sta T) d7 (dpAll_same s8 (dpAll_same s7 hdp))) (dpT_up (noL_sta _) d7 (.tup (SqT.of upd_same) (.cons (.str _) (.cons (.int _) (.cons (.int _) .nil)))))
  obtain ⟨T, xb, lT, dT, _, pT, okT, nmT, sT⟩ := hI
  have w6 := sT _ _ w5
  have n2 : D2 ≠ wd := ne_of dT w6 (fun z => nomatch z)
  refine ⟨_, rfl, wd, _, rfl, DPut.k (k := Sum.inr "stations") w6 (by show 5 < sizeLine; decide), ?_⟩
  rw [wd_putT]
  have s7 : Same H2 (upd H6 wd (.dK (wdK h D1 D2 l3 l4))) := same_at hwd (s5.trans sT) _
  have w7 : (upd H6 wd (.dK (wdK h D1 D2 l3 l4))) wd = some (.dK (wdK h D1 D2 l3 l4)) := upd_same
  have a7 : (upd H6 wd (.dK (wdK h D1 D2 l3 l4))) D1 = some (.lst xa) := by rw [upd_ne n1]; exact sT _ _ a5
  have p7 : DpAll K (upd H6 wd (.dK (wdK h D1 D2 l3 l4))) xa (S.map satPy) := dpTs_upK (noLs_sat S) w6 (dpAll_same sT p5)
  have b7 : (upd H6 wd (.dK (wdK h D1 D2 l3 l4))) D2 = some (.lst xb) := by rw [upd_ne n2]; exact dT
  have q7 : DpAll K (upd H6 wd (.dK (wdK h D1 D2 l3 l4))) xb (T.map staPy) := dpTs_upK (noLs_sta T) w6 pT
  generalize (upd H6 wd (.dK (wdK h D1 D2 l3 l4))) = H7 at s7 w7 a7 p7 b7 q7
  -- recordings
  refine ⟨_, rfl, r, rfl, by omega, by omega, fun D3 hD3 => ?_⟩
  refine lc_range (lo := 0) (n := r.toNat) (fun i H' => ∃ (R : List RecD) (xs : List V), R.length = i ∧ H' D3 = some (.lst xs) ∧ xs.length = i ∧ DpAll K H' xs (R.map recPy) ∧ (∀ s ∈ R, ∀ W : WorldD, W.sats.length = n.toNat → W.horizon = h → RecOk W s) ∧ NamedBy (·.name) R ∧ Same H7 H')
    ⟨[], [], rfl, upd_same, rfl, .nil, fun _ z => absurd z List.not_mem_nil, fun i s z => by simp at z, same_new hD3 _⟩ (fun i H' hi hI => ?_) (fun H8 hI => ?_)
  · obtain ⟨R, xs, hl, hDD, hxl, hdp, hok, hnm, hs⟩ := hI
    have npos : 0 < n.toNat := by
      by_cases c : n = 0
      · have := (hzero c).1
        omega
      · omega
    refine ⟨rfl, _, rfl, _, rfl, _, rfl, _, rfl, st, i, n.toNat, h, by rw [Int.zero_add, show ((n.toNat : Nat) : Int) = n by omega]; rfl, by omega, npos, h1, h80, hst.same (s7.trans hs), fun x s H9 s9 ok9 nm9 dp9 => ?_⟩
    have d9 := s9 _ _ hDD
    refine ⟨xs, d9, by rw [hxl]; exact small1000 (by omega), R ++ [s], xs ++ [x], by rw [List.length_append, hl, List.length_singleton], upd_same, by rw [List.length_append, hxl, List.length_singleton], ?_, all_snoc hok ok9, hnm.snoc (by rw [hl]; exact nm9), same_at hD3 (hs.trans s9) _⟩
    rw [List.map_append]
    exact dpAll_snoc (dpTs_up (noLs_rec R) d9 (dpAll_same s9 hdp)) (dpT_up (noL_rec s) d9 dp9)
  obtain ⟨R, xc, lR, dR, _, pR, okR, nmR, sR⟩ := hI
  have w8 := sR _ _ w7
  have n3 : D3 ≠ wd := ne_of dR w8 (fun z => nomatch z)
  refine ⟨_, rfl, wd, _, rfl, DPut.k (k := Sum.inr "recordings") w8 (by show 5 < sizeLine; decide), ?_⟩
  rw [wd_putR]
  have s9 : Same H2 (upd H8 wd (.dK (wdK h D1 D2 D3 l4))) := same_at hwd (s7.trans sR) _
  have w9 : (upd H8 wd (.dK (wdK h D1 D2 D3 l4))) wd = some (.dK (wdK h D1 D2 D3 l4)) := upd_same
  have a9 : (upd H8 wd (.dK (wdK h D1 D2 D3 l4))) D1 = some (.lst xa) := by rw [upd_ne n1]; exact sR _ _ a7
  have p9 : DpAll K (upd H8 wd (.dK (wdK h D1 D2 D3 l4))) xa (S.map satPy) := dpTs_upK (noLs_sat S) w8 (dpAll_same sR p7)
  have b9 : (upd H8 wd (.dK (wdK h D1 D2 D3 l4))) D2 = some (.lst xb) := by rw [upd_ne n2]; exact sR _ _ b7
  have q9 : DpAll K (upd H8 wd (.dK (wdK h D1 D2 D3 l4))) xb (T.map staPy) := dpTs_upK (noLs_sta T) w8 (dpAll_same sR q7)
  have c9 : (upd H8 wd (.dK (wdK h D1 D2 D3 l4))) D3 = some (.lst xc) := by rw [upd_ne n3]; exact dR
  have r9 : DpAll K (upd H8 wd (.dK (wdK h D1 D2 D3 l4))) xc (R.map recPy) := dpTs_upK (noLs_rec R) w8 pR
  generalize (upd H8 wd (.dK (wdK h D1 D2 D3 l4))) = H9 at s9 w9 a9 p9 b9 q9 c9 r9
  -- passes
  refine ⟨_, rfl, p, rfl, by omega, by omega, fun D4 hD4 => ?_⟩
  refine lc_range (lo := 0) (n := p.toNat) (fun i H' => ∃ (R : List PasD) (xs : List V), R.length = i ∧ H' D4 = some (.lst xs) ∧ xs.length = i ∧ DpAll K H' xs (R.map pasPy) ∧ (∀ s ∈ R, ∀ W : WorldD, W.sats.length = n.toNat → W.stas.length = (1 + t / 2).toNat → W.horizon = h → PasOk W s) ∧ NamedBy (·.name) R ∧ Same H9 H')
    ⟨[], [], rfl, upd_same, rfl, .nil, fun _ z => absurd z List.not_mem_nil, fun i s z => by simp at z, same_new hD4 _⟩ (fun i H' hi hI => ?_) (fun HA hI => ?_)
  · obtain ⟨R, xs, hl, hDD, hxl, hdp, hok, hnm, hs⟩ := hI
    have npos : 0 < n.toNat := by
      by_cases c : n = 0
      · have := (hzero c).2
        omega
      · omega
    refine ⟨rfl, _, rfl, _, rfl, _, rfl, _, rfl, _, rfl, st, i, n.toNat, (1 + t / 2).toNat, h, by rw [Int.zero_add, show ((n.toNat : Nat) : Int) = n by omega, show (((1 + t / 2).toNat : Nat) : Int) = 1 + t / 2 by omega]; rfl, by omega, npos, by omega, h1, h80, hst.same (s9.trans hs), fun x s HB sB okB nmB dpB => ?_⟩
    have dB := sB _ _ hDD
    refine ⟨xs, dB, by rw [hxl]; exact small1000 (by omega), R ++ [s], xs ++ [x], by rw [List.length_append, hl, List.length_singleton], upd_same, by rw [List.length_append, hxl, List.length_singleton], ?_, all_snoc hok okB, hnm.snoc (by rw [hl]; exact nmB), same_at hD4 (hs.trans sB) _⟩
    rw [List.map_append]
    exact dpAll_snoc (dpTs_up (noLs_pas R) dB (dpAll_same sB hdp)) (dpT_up (noL_pas s) dB dpB)
  obtain ⟨Q4, xd, lP, dP, _, pP, okP, nmP, sP⟩ := hI
  have wA := sP _ _ w9
  have n4 : D4 ≠ wd := ne_of dP wA (fun z => nomatch z)
  refine ⟨_, rfl, wd, _, rfl, DPut.k (k := Sum.inr "passes") wA (by show 5 < sizeLine; decide), ?_⟩
  rw [wd_putP]
  have sB : Same H2 (upd HA wd (.dK (wdK h D1 D2 D3 D4))) := same_at hwd (s9.trans sP) _
  refine ⟨_, rfl, q wd _ ⟨h, S, T, R, Q4⟩ hwd0 (hs1.trans sB) ⟨⟨⟨h1, by show h ≤ 500; omega⟩, by show S.length ≤ 3; omega, by show T.length ≤ 3; omega, by show R.length ≤ 10; omega, by show Q4.length ≤ 10; omega, nmS.nodup, nmT.nodup, nmR.nodup, nmP.nodup, fun s hs => (okS s hs).1, okT,
    fun s hs => okR s hs _ lS rfl, fun s hs => okP s hs _ lS lT rfl⟩, h80, by show R.length ≤ 5; omega, by show Q4.length ≤ 5; omega, by show 1 ≤ T.length; omega, nmS, nmT, nmR, nmP, fun s hs => (okS s hs).2⟩ ⟨D1, D2, D3, D4, xa, xb, xc, xd, upd_same, ?_, ?_, ?_, ?_, ?_, ?_, ?_, ?_⟩⟩
  · rw [upd_ne n1]; exact sP _ _ a9
  · exact dpTs_upK (noLs_sat S) wA (dpAll_same sP p9)
  · rw [upd_ne n2]; exact sP _ _ b9
  · exact dpTs_upK (noLs_sta T) wA (dpAll_same sP q9)
  · rw [upd_ne n3]; exact sP _ _ c9
  · exact dpTs_upK (noLs_rec R) wA (dpAll_same sP r9)
  · rw [upd_ne n4]; exact dP
  · exact dpTs_upK (noLs_pas Q4) wA pP
end
end DP
namespace DP
open PySem PySem.Spec PyProof.Rows L2
abbrev s__law_is_integer : Stmt := topS 84
theorem sc__law_is_integer : FnScope ["actual"] ["actual"] (defScope s__law_is_integer) := ⟨rfl, rfl, rfl, by decide +kernel, rfl, by decide +kernel, by decide +kernel⟩
abbrev s__law_same : Stmt := topS 85
theorem sc__law_same : FnScope ["actual", "expected", "k"] ["actual", "expected"] (defScope s__law_same) := ⟨rfl, rfl, rfl, by decide +kernel, rfl, by decide +kernel, by decide +kernel⟩
/-- data of at most n layers, each of at most a thousand items -/
def Fit : Nat → PyData → Prop
  | 0, _ => False
  | _ + 1, .none => True
  | _ + 1, .bool _ => True
  | _ + 1, .int _ => True
  | _ + 1, .str _ => True
  | n + 1, .list ds => ds.length ≤ 1000 ∧ ∀ d ∈ ds, Fit n d
  | n + 1, .tuple ds => ds.length ≤ 1000 ∧ ∀ d ∈ ds, Fit n d
  | _ + 1, .dict _ => False
theorem dpAll_len {K : PySem.W.Frag} {H : Hp} : ∀ {xs : List V} {ds : List PyData}, DpAll K H xs ds → xs.length = ds.length
  | _, _, .nil => rfl
  | _, _, .cons _ t => by rw [List.length_cons, List.length_cons, dpAll_len t]
theorem dpAll_at {K : PySem.W.Frag} {H : Hp} : ∀ {xs : List V} {ds : List PyData} (i : Nat), DpAll K H xs ds → i < ds.length → ∃ x d, xs[i]? = some x ∧ ds[i]? = some d ∧ Dp K H x d
  | _, _, _, .nil, h => absurd h (Nat.not_lt_zero _)
  | _, _, 0, .cons (v := v) (d := d) a _, _ => ⟨v, d, rfl, rfl, a⟩
  | _, _, i + 1, .cons _ t, h => by
    obtain ⟨x, d, h1, h2, h3⟩ := dpAll_at i t (by rw [List.length_cons] at h; omega)
    exact ⟨x, d, by rw [List.getElem?_cons_succ]; exact h1, by rw [List.getElem?_cons_succ]; exact h2, h3⟩
theorem tyx_list {K : PySem.W.Frag} {H : Hp} {a : Addr} {xs : List V} (h : SqL K H a xs) : TyX K H (.ref a) (.type "list") := by
  rcases h with (h | ⟨o, h⟩) | ⟨o, _, _, h, c, _⟩
  · exact .base (.lst h)
  · exact .base (.frz h)
  · exact .kList h c
theorem tyx_tup {K : PySem.W.Frag} {H : Hp} {a : Addr} {xs : List V} (h : SqT K H a xs) : TyX K H (.ref a) (.type "tuple") := by
  rcases h with (h | ⟨o, h⟩) | ⟨o, _, _, h, c, _⟩
  · exact .base (.tup h)
  · exact .fTuple h
  · exact .kTuple h c
/-- the built-in class of data -/
def tyD : PyData → String
  | .none => "NoneType"
  | .bool _ => "bool"
  | .int _ => "int"
  | .str _ => "str"
  | .list _ => "list"
  | .tuple _ => "tuple"
  | .dict _ => "dict"
theorem tyx_d {K : PySem.W.Frag} {H : Hp} {x : V} {d : PyData} (h : Dp K H x d) : TyX K H x (.type (tyD d)) := by
  cases h with
  | non => exact .base .non
  | bl b => exact .base (.bl b)
  | int i => exact .base (.int i)
  | str x => exact .base (.str x)
  | lst h _ => exact tyx_list h
  | tup h _ => exact tyx_tup h
section
variable {P : Program} {w : World} {K : PySem.W.Frag} {mg : Str → Option Value} {base : Heap}
def spIsInt : Sp := fun vs H Q _ => ∃ i : Int, vs = [.int i] ∧ Q (.bl true) H
theorem d_is_integer (B : Bt mg) (A : At K mg "_law_is_integer" s__law_is_integer ["actual"]) : DefOk P w K mg base CX0 1 "_law_is_integer" ["actual"] spIsInt := by
  refine A.ok sc__law_is_integer (fun vs H Q E h => ?_) (fun f cdv A outer s H vs Q E hr h => ?_)
  · obtain ⟨i, rfl, _⟩ := h
    rfl
  obtain ⟨i, rfl, q⟩ := h
  refine ⟨_, pss_one (ps_ret (pe_and (pe_callB (call_isi) (by rfl) B.isinstance (by decide +kernel) (pa_cons (pv 0) (pa_cons (pe_bltn (v := .ty "int") (u := .type "int") (by rfl) B.int (by decide +kernel) rfl) pa_nil))) (pe_one (pe_not (pe_callB (call_isi) (by rfl) B.isinstance (by decide +kernel) (pa_cons (pv 0) (pa_cons (pe_bltn (v := .ty "bool") (u := .type "bool") (by rfl) B.bool (by decide +kernel) rfl) pa_nil)))))))
    , ?_⟩
  refine ⟨_, rfl, _, .ty "int", _, _, true, rfl, .ty "int", .base (.int i), kit_ty (by decide +kernel), true, rfl, iteT ?_⟩
  exact ⟨_, rfl, _, .ty "bool", _, _, false, rfl, .ty "bool", .base (.int i), kit_ty (by decide +kernel), false, rfl, q⟩
/-- two values that read as the same data of at most n layers -/
def spSame (K : PySem.W.Frag) (n : Nat) : Sp := fun vs H Q _ => ∃ (x y : V) (d : PyData), vs = [x, y] ∧ Fit n d ∧ Dp K H x d ∧ Dp K H y d ∧ Q (.bl true) H
theorem d_same1 {n : Nat} (B : Bt mg) (D_law_is_integer : DefOk P w K mg base CX0 1 "_law_is_integer" ["actual"] spIsInt) (D_law_same : DefOk P w K mg base CX0 (n + 1) "_law_same" ["actual", "expected"] (spSame K n))
    (A : At K mg "_law_same" s__law_same ["actual", "expected"]) : DefOk P w K mg base CX0 (n + 2) "_law_same" ["actual", "expected"] (spSame K (n + 1)) := by
  refine A.ok sc__law_same (fun vs H Q E h => ?_) (fun f cdv A outer s H vs Q E hr h => ?_)
  · obtain ⟨x, y, d, rfl, _⟩ := h
    rfl
  obtain ⟨x, y, d, rfl, fit, dx, dy, q⟩ := h
  refine ⟨_, pss_cons (ps_if (pt_cmpR op_isN (pv 1) pe_non (nomark _))
      (pss_one (ps_ret (pe_cmpR op_isN (pv 0) pe_non (nomark _))))
      (pss_nil))
  (pss_cons (ps_if (pt_val (pe_callB (call_isi) (by rfl) B.isinstance (by decide +kernel) (pa_cons (pv 1) (pa_cons (pe_bltn (v := .ty "bool") (u := .type "bool") (by rfl) B.bool (by decide +kernel) rfl) pa_nil))))
      (pss_one (ps_ret (pe_and (pe_callB (call_isi) (by rfl) B.isinstance (by decide +kernel) (pa_cons (pv 0) (pa_cons (pe_bltn (v := .ty "bool") (u := .type "bool") (by rfl) B.bool (by decide +kernel) rfl) pa_nil))) (pe_one (pe_cmpR op_eq (pv 0) (pv 1) (nomark _))))))
      (pss_nil))
  (pss_cons (ps_if (pt_val (pe_callB (call_isi) (by rfl) B.isinstance (by decide +kernel) (pa_cons (pv 1) (pa_cons (pe_bltn (v := .ty "int") (u := .type "int") (by rfl) B.int (by decide +kernel) rfl) pa_nil))))
      (pss_one (ps_ret (pe_and (pe_f D_law_is_integer (hr.mono (by omega)) pass0 (pa_cons (pv 0) pa_nil)) (pe_one (pe_cmpR op_eq (pv 0) (pv 1) (nomark _))))))
      (pss_nil))
  (pss_cons (ps_if (pt_val (pe_callB (call_isi) (by rfl) B.isinstance (by decide +kernel) (pa_cons (pv 1) (pa_cons (pe_bltn (v := .ty "str") (u := .type "str") (by rfl) B.str (by decide +kernel) rfl) pa_nil))))
      (pss_one (ps_ret (pe_and (pe_callB (call_isi) (by rfl) B.isinstance (by decide +kernel) (pa_cons (pv 0) (pa_cons (pe_bltn (v := .ty "str") (u := .type "str") (by rfl) B.str (by decide +kernel) rfl) pa_nil))) (pe_one (pe_cmpR op_eq (pv 0) (pv 1) (nomark _))))))
      (pss_nil))
  (pss_cons (ps_if (PW.pt (pw_and (pt_val (pe_callB (call_isi) (by rfl) B.isinstance (by decide +kernel) (pa_cons (pv 1) (pa_cons (pe_bltn (v := .ty "tuple") (u := .type "tuple") (by rfl) B.tuple (by decide +kernel) rfl) pa_nil)))) (pw_and1 (pt_not (pt_val (pe_callB (call_isi) (by rfl) B.isinstance (by decide +kernel) (pa_cons (pv 0) (pa_cons (pe_bltn (v := .ty "tuple") (u := .type "tuple") (by rfl) B.tuple (by decide +kernel) rfl) pa_nil))))))))
      (pss_one (ps_ret pe_bl))
      (pss_nil))
  (pss_cons (ps_if (PW.pt (pw_and (pt_val (pe_callB (call_isi) (by rfl) B.isinstance (by decide +kernel) (pa_cons (pv 1) (pa_cons (pe_bltn (v := .ty "list") (u := .type "list") (by rfl) B.list (by decide +kernel) rfl) pa_nil)))) (pw_and1 (pt_not (pt_val (pe_callB (call_isi) (by rfl) B.isinstance (by decide +kernel) (pa_cons (pv 0) (pa_cons (pe_bltn (v := .ty "list") (u := .type "list") (by rfl) B.list (by decide +kernel) rfl) pa_nil))))))))
      (pss_one (ps_ret pe_bl))
      (pss_nil))
  (pss_cons (ps_if (pt_cmpR op_ne (pe_callB (call_len_seq) (by rfl) B.len (by decide +kernel) (pa_cons (pv 0) pa_nil)) (pe_callB (call_len_seq) (by rfl) B.len (by decide +kernel) (pa_cons (pv 1) pa_nil)) (nomark _))
      (pss_one (ps_ret pe_bl))
      (pss_nil))
  (pss_cons (ps_for PassesOwn.never rfl (pi_range1 (by rfl) B.range (pa_cons (pe_callB (call_len_seq) (by rfl) B.len (by decide +kernel) (pa_cons (pv 1) pa_nil)) pa_nil)) (pg_name (i := 2) sc__law_same.nd rfl (Or.inl rfl))
      (pss_one (ps_if (pt_not (pt_val (pe_f D_law_same (hr.mono (by omega)) pass0 (pa_cons (pe_ix ix_seq (pv 0) (pv 2) (fun _ _ => rfl)) (pa_cons (pe_ix ix_seq (pv 1) (pv 2) (fun _ _ => rfl)) pa_nil)))))
          (pss_one (ps_ret pe_bl))
          (pss_nil))))
  (pss_one (ps_ret pe_bl)))))))))
    , ?_⟩
  cases d with
  | none =>
    cases dx
    cases dy
    exact ⟨_, rfl, rfl, _, rfl, iteT' (by decide) ⟨_, rfl, rfl, q⟩⟩
  | bool b =>
    cases dx
    cases dy
    refine ⟨_, rfl, rfl, _, rfl, iteF' (decide_eq_false (fun z => nomatch z)) ⟨_, rfl, ⟨_, _, _, _, true, rfl, .ty _, tyx_d (.bl b), kit_ty (by simp only [tyD]; decide +kernel), ⟨_, rfl, iteT ?_⟩⟩⟩⟩
    refine ⟨_, rfl, ⟨_, _, _, _, true, rfl, .ty _, tyx_d (.bl b), kit_ty (by simp only [tyD]; decide +kernel), ⟨_, rfl, iteT ⟨_, rfl, _, rfl, rfl, ?_⟩⟩⟩⟩
    rw [decide_eq_true (rfl : V.bl b = V.bl b)]
    exact q
  | int i =>
    cases dx
    cases dy
    refine ⟨_, rfl, rfl, _, rfl, iteF' (decide_eq_false (fun z => nomatch z)) ⟨_, rfl, ⟨_, _, _, _, false, rfl, .ty _, tyx_d (.int i), kit_ty (by simp only [tyD]; decide +kernel), ⟨_, rfl, iteF ?_⟩⟩⟩⟩
    refine ⟨_, rfl, ⟨_, _, _, _, true, rfl, .ty _, tyx_d (.int i), kit_ty (by simp only [tyD]; decide +kernel), ⟨_, rfl, iteT ?_⟩⟩⟩
    refine ⟨_, rfl, i, rfl, _, rfl, iteT ⟨_, rfl, _, rfl, rfl, ?_⟩⟩
    rw [decide_eq_true (rfl : V.int i = V.int i)]
    exact q
  | str z =>
    cases dx
    cases dy
    refine ⟨_, rfl, rfl, _, rfl, iteF' (decide_eq_false (fun z => nomatch z)) ⟨_, rfl, ⟨_, _, _, _, false, rfl, .ty _, tyx_d (.str z), kit_ty (by simp only [tyD]; decide +kernel), ⟨_, rfl, iteF ?_⟩⟩⟩⟩
    refine ⟨_, rfl, ⟨_, _, _, _, false, rfl, .ty _, tyx_d (.str z), kit_ty (by simp only [tyD]; decide +kernel), ⟨_, rfl, iteF ?_⟩⟩⟩
    refine ⟨_, rfl, ⟨_, _, _, _, true, rfl, .ty _, tyx_d (.str z), kit_ty (by simp only [tyD]; decide +kernel), ⟨_, rfl, iteT ?_⟩⟩⟩
    refine ⟨_, rfl, ⟨_, _, _, _, true, rfl, .ty _, tyx_d (.str z), kit_ty (by simp only [tyD]; decide +kernel), ⟨_, rfl, iteT ⟨_, rfl, _, rfl, rfl, ?_⟩⟩⟩⟩
    rw [decide_eq_true (rfl : V.str z = V.str z)]
    exact q
  | dict kvs => cases fit
  | list ds =>
    have dx' := dx
    have dy' := dy
    cases dx with
    | @lst a xs _ hx ax =>
    cases dy with
    | @lst b ys _ hy ay =>
    refine ⟨_, rfl, rfl, _, rfl, iteF' (decide_eq_false (fun z => nomatch z)) ⟨_, rfl, ⟨_, _, _, _, false, rfl, .ty _, tyx_d dy', kit_ty (by simp only [tyD]; decide +kernel), ⟨_, rfl, iteF ?_⟩⟩⟩⟩
    refine ⟨_, rfl, ⟨_, _, _, _, false, rfl, .ty _, tyx_d dy', kit_ty (by simp only [tyD]; decide +kernel), ⟨_, rfl, iteF ?_⟩⟩⟩
    refine ⟨_, rfl, ⟨_, _, _, _, false, rfl, .ty _, tyx_d dy', kit_ty (by simp only [tyD]; decide +kernel), ⟨_, rfl, iteF ?_⟩⟩⟩
    refine ⟨_, rfl, ⟨_, _, _, _, false, rfl, .ty _, tyx_d dy', kit_ty (by simp only [tyD]; decide +kernel), ⟨_, rfl, iteF ?_⟩⟩⟩
    refine iteF ?_
    refine ⟨_, rfl, ⟨_, _, _, _, true, rfl, .ty _, tyx_d dy', kit_ty (by simp only [tyD]; decide +kernel), ⟨_, rfl, iteT ?_⟩⟩⟩
    refine ⟨_, rfl, ⟨_, _, _, _, true, rfl, .ty _, tyx_d dx', kit_ty (by simp only [tyD]; decide +kernel), ⟨_, rfl, iteF ?_⟩⟩⟩
    have lx := dpAll_len ax
    have ly := dpAll_len ay
    refine ⟨_, rfl, a, _, rfl, .inl hx, _, rfl, b, _, rfl, .inl hy, rfl, _, rfl, iteF' (by rw [lx, ly, decide_eq_true rfl]; rfl) ?_⟩
    have fl := fit.1
    refine ⟨_, rfl, b, _, rfl, .inl hy, _, rfl, by omega, by omega, for_range (lo := 0) (n := ys.length) (fun i σ H' => H' = H ∧ ∃ y2, σ = [some (.ref a), some (.ref b), y2]) ⟨rfl, none, rfl⟩ (fun i σ H1 hi hI => ?_) (fun σ H1 hI => ?_)⟩
    · obtain ⟨rfl, y2, rfl⟩ := hI
      obtain ⟨u, d1, u1, u2, u3⟩ := dpAll_at i ax (by omega)
      obtain ⟨v, d2, v1, v2, v3⟩ := dpAll_at i ay (by omega)
      have e : d1 = d2 := Option.some.inj (u2.symm.trans v2)
      subst e
      have fd := fit.2 d1 (List.mem_of_getElem? u2)
      have u4 : atI xs (0 + (i : Int)) = some u := by rw [Int.zero_add]; exact atI_nat u1
      have v4 : atI ys (0 + (i : Int)) = some v := by rw [Int.zero_add]; exact atI_nat v1
      refine ⟨_, rfl, _, rfl, .inl ⟨a, _, _, u, rfl, rfl, hx, u4, _, rfl, _, rfl, .inl ⟨b, _, _, v, rfl, rfl, hy, v4, u, v, d1, rfl, fd, u3, v3, ?_⟩⟩⟩
      exact ⟨_, rfl, iteF ⟨rfl, _, rfl⟩⟩
    · obtain ⟨rfl, y2, rfl⟩ := hI
      exact q
  | tuple ds =>
    have dx' := dx
    have dy' := dy
    cases dx with
    | @tup a xs _ hx ax =>
    cases dy with
    | @tup b ys _ hy ay =>
    refine ⟨_, rfl, rfl, _, rfl, iteF' (decide_eq_false (fun z => nomatch z)) ⟨_, rfl, ⟨_, _, _, _, false, rfl, .ty _, tyx_d dy', kit_ty (by simp only [tyD]; decide +kernel), ⟨_, rfl, iteF ?_⟩⟩⟩⟩
    refine ⟨_, rfl, ⟨_, _, _, _, false, rfl, .ty _, tyx_d dy', kit_ty (by simp only [tyD]; decide +kernel), ⟨_, rfl, iteF ?_⟩⟩⟩
    refine ⟨_, rfl, ⟨_, _, _, _, false, rfl, .ty _, tyx_d dy', kit_ty (by simp only [tyD]; decide +kernel), ⟨_, rfl, iteF ?_⟩⟩⟩
    refine ⟨_, rfl, ⟨_, _, _, _, true, rfl, .ty _, tyx_d dy', kit_ty (by simp only [tyD]; decide +kernel), ⟨_, rfl, iteT ?_⟩⟩⟩
    refine ⟨_, rfl, ⟨_, _, _, _, true, rfl, .ty _, tyx_d dx', kit_ty (by simp only [tyD]; decide +kernel), ⟨_, rfl, iteF ?_⟩⟩⟩
    refine ⟨_, rfl, ⟨_, _, _, _, false, rfl, .ty _, tyx_d dy', kit_ty (by simp only [tyD]; decide +kernel), ⟨_, rfl, iteF ?_⟩⟩⟩
    refine iteF ?_
    have lx := dpAll_len ax
    have ly := dpAll_len ay
    refine ⟨_, rfl, a, _, rfl, .inr hx, _, rfl, b, _, rfl, .inr hy, rfl, _, rfl, iteF' (by rw [lx, ly, decide_eq_true rfl]; rfl) ?_⟩
    have fl := fit.1
    refine ⟨_, rfl, b, _, rfl, .inr hy, _, rfl, by omega, by omega, for_range (lo := 0) (n := ys.length) (fun i σ H' => H' = H ∧ ∃ y2, σ = [some (.ref a), some (.ref b), y2]) ⟨rfl, none, rfl⟩ (fun i σ H1 hi hI => ?_) (fun σ H1 hI => ?_)⟩
    · obtain ⟨rfl, y2, rfl⟩ := hI
      obtain ⟨u, d1, u1, u2, u3⟩ := dpAll_at i ax (by omega)
      obtain ⟨v, d2, v1, v2, v3⟩ := dpAll_at i ay (by omega)
      have e : d1 = d2 := Option.some.inj (u2.symm.trans v2)
      subst e
      have fd := fit.2 d1 (List.mem_of_getElem? u2)
      have u4 : atI xs (0 + (i : Int)) = some u := by rw [Int.zero_add]; exact atI_nat u1
      have v4 : atI ys (0 + (i : Int)) = some v := by rw [Int.zero_add]; exact atI_nat v1
      refine ⟨_, rfl, _, rfl, .inr (.inl ⟨a, _, _, u, rfl, rfl, hx, u4, _, rfl, _, rfl, .inr (.inl ⟨b, _, _, v, rfl, rfl, hy, v4, u, v, d1, rfl, fd, u3, v3, ?_⟩)⟩)⟩
      exact ⟨_, rfl, iteF ⟨rfl, _, rfl⟩⟩
    · obtain ⟨rfl, y2, rfl⟩ := hI
      exact q
theorem none_same (A : At K mg "_law_same" s__law_same ["actual", "expected"]) : DefOk P w K mg base CX0 1 "_law_same" ["actual", "expected"] (spSame K 0) := by
  obtain ⟨f, fd, G, m, b⟩ := A.ex
  have no : ∀ vs H Q E, ¬ spSame K 0 vs H Q E := fun vs H Q E h => by
    obtain ⟨x, y, d, _, fit, _⟩ := h
    cases d <;> exact fit
  obtain ⟨oc, od, _, _, _, _, _, _, osl, _, lk, _⟩ := G.ex
  exact ⟨f, fd, ⟨fun vs H Q E h => absurd h (no vs H Q E), fun A outer s H args us vs Q E _ _ _ _ h => absurd h (no vs H Q E)⟩, m, G.kp, b, oc, od, osl, lk⟩
theorem d_same (B : Bt mg) (D : DefOk P w K mg base CX0 1 "_law_is_integer" ["actual"] spIsInt) (A : At K mg "_law_same" s__law_same ["actual", "expected"]) :
    ∀ n : Nat, DefOk P w K mg base CX0 (n + 1) "_law_same" ["actual", "expected"] (spSame K n)
  | 0 => none_same A
  | n + 1 => d_same1 B D (d_same B D A n) A
end
end DP
namespace DP
open PySem PySem.Spec PyProof.Rows L2
abbrev s__law_lines : Stmt := topS 77
theorem sc__law_lines : FnScope ["world", "lines", "name", "numbers", "light", "words", "k", "span", "antennas", "turn", "satellite", "urgency", "station"] ["world"] (defScope s__law_lines) := ⟨rfl, rfl, rfl, by decide +kernel, rfl, by decide +kernel, by decide +kernel⟩
abbrev s__law_text : Stmt := topS 78
theorem sc__law_text : FnScope ["world", "line"] ["world"] (defScope s__law_text) := ⟨rfl, rfl, rfl, by decide +kernel, rfl, by decide +kernel, by decide +kernel⟩
def flat : List (Str × Int) → List Str
  | [] => []
  | p :: r => p.1 :: num p.2 :: flat r
theorem flat_len : ∀ l : List (Str × Int), (flat l).length = 2 * l.length
  | [] => rfl
  | p :: r => by
    show (flat r).length + 1 + 1 = 2 * (r.length + 1)
    rw [flat_len r]
    omega
theorem flat_app : ∀ (l : List (Str × Int)) (p : Str × Int), flat (l ++ [p]) = flat l ++ [p.1, num p.2]
  | [], p => rfl
  | q :: r, p => by
    show q.1 :: num q.2 :: flat (r ++ [p]) = q.1 :: num q.2 :: (flat r ++ [p.1, num p.2])
    rw [flat_app r p]
theorem flat_take {l : List (Str × Int)} {i : Nat} {p : Str × Int} (h : l[i]? = some p) : flat (l.take (i + 1)) = flat (l.take i) ++ [p.1, num p.2] := by rw [take_snoc h, flat_app]
theorem lightW_app : ∀ (l : List (Int × Int)) (p : Int × Int), lightW (l ++ [p]) = lightW l ++ [num p.1, num p.2]
  | [], p => rfl
  | q :: r, p => by
    show num q.1 :: num q.2 :: lightW (r ++ [p]) = num q.1 :: num q.2 :: (lightW r ++ [num p.1, num p.2])
    rw [lightW_app r p]
theorem lightW_take {l : List (Int × Int)} {i : Nat} {p : Int × Int} (h : l[i]? = some p) : lightW (l.take (i + 1)) = lightW (l.take i) ++ [num p.1, num p.2] := by rw [take_snoc h, lightW_app]
def satKv (s : SatD) : List (Str × Int) := [("store", s.store), ("battery", s.battery), ("level", s.level), ("reserve", s.reserve), ("charge", s.charge), ("settle", s.settle)]
def recKv (r : RecD) : List (Str × Int) := [("from", r.earliest), ("to", r.latest), ("length", r.length), ("size", r.size), ("energy", r.energy)]
def recKu (r : RecD) : List (Str × Int) := [("worth", r.worth), ("rank", r.rank), ("until", r.deadline)]
def pasKv (p : PasD) : List (Str × Int) := [("room", p.room), ("energy", p.energy), ("fee", p.fee)]
theorem log_ok {n : Int} (h0 : 0 ≤ n) (h1 : n < 10000000) : n.natAbs.log2 < 1920 := by
  by_cases c : n.natAbs = 0
  · rw [c]; decide
  · refine (Nat.log2_lt c).mpr ?_
    have : n.natAbs < 2 ^ 24 := by omega
    exact Nat.lt_of_lt_of_le this (Nat.pow_le_pow_right (by decide) (by decide))
theorem num_len {n : Int} (h0 : 0 ≤ n) (h1 : n < 10000000) : (num n).length ≤ 7 := by
  rw [TL.len_tl, show TL.tl (num n) = tl (num n) from rfl, num_nat h0]
  exact numL_len7 (by omega)
theorem name_len {u : Str} (h : NameOk u) : u.length ≤ 15 := by
  obtain ⟨c, r, e, _, _, hl⟩ := h
  rw [TL.len_tl, show TL.tl u = tl u from rfl, e, List.length_cons]
  omega
theorem sum_len {ws : List Str} (h : ∀ w ∈ ws, WdOk w) : (ws.map (·.length)).sum ≤ 16 * ws.length := by
  induction ws with
  | nil => exact Nat.zero_le _
  | cons a r ih =>
    have h1 := wd_len (h a List.mem_cons_self)
    have h2 := ih fun w hw => h w (List.mem_cons_of_mem _ hw)
    rw [List.map_cons, List.sum_cons, List.length_cons]
    omega
theorem join_fits {ws : List Str} (h : ∀ w ∈ ws, WdOk w) (hl : ws.length ≤ 1015) : (ws.map (·.length)).sum + ws.length * sp.length ≤ 16777216 := by
  have h1 := sum_len h
  have h2 : sp.length = 1 := by decide +kernel
  rw [h2]
  omega
theorem row_hor (h : Int) : (Str.ofString "horizon " : Str) ++ num h = row (wHor h) := by
  refine TL.ext_tl ?_
  show tl (_ ++ _) = tl (Str.ofString "horizon" ++ sp ++ num h)
  rw [tl_app, tl_app, tl_app, show tl (Str.ofString "horizon ") = tl (Str.ofString "horizon") ++ tl sp by decide +kernel]
theorem row_sta (s : StaD) : (Str.ofString "station " : Str) ++ s.name ++ Str.ofString " antennas " ++ num s.antennas ++ Str.ofString " turn " ++ num s.turn = row (wSta s) := by
  refine TL.ext_tl ?_
  show tl _ = tl (Str.ofString "station" ++ sp ++ (s.name ++ sp ++ (Str.ofString "antennas" ++ sp ++ (num s.antennas ++ sp ++ (Str.ofString "turn" ++ sp ++ num s.turn)))))
  simp only [tl_app]
  rw [show tl (Str.ofString "station ") = tl (Str.ofString "station") ++ tl sp by decide +kernel, show tl (Str.ofString " antennas ") = tl sp ++ (tl (Str.ofString "antennas") ++ tl sp) by decide +kernel, show tl (Str.ofString " turn ") = tl sp ++ (tl (Str.ofString "turn") ++ tl sp) by decide +kernel]
  simp only [List.append_assoc]
theorem row_join (ws : List Str) : Txt.join sp ws = row ws := TL.join_eq sp ws
theorem dpAll_get {K : PySem.W.Frag} {H : Hp} {α : Type} {f : α → PyData} {xs : List V} {l : List α} {i : Nat} {x : V} (h : DpAll K H xs (l.map f)) (hx : xs[i]? = some x) : ∃ a, l[i]? = some a ∧ Dp K H x (f a) := by
  have hl := dpAll_len h
  have hi : i < xs.length := (List.getElem?_eq_some_iff.mp hx).1
  obtain ⟨y, d, h1, h2, h3⟩ := dpAll_at i h (by rw [← hl]; exact hi)
  rw [hx] at h1
  cases h1
  rw [List.getElem?_map] at h2
  cases e : l[i]? with
  | none => rw [e] at h2; cases h2
  | some a =>
    rw [e] at h2
    have ed : f a = d := Option.some.inj h2
    rw [← ed] at h3
    exact ⟨a, rfl, h3⟩
theorem dpAll_get2 {K : PySem.W.Frag} {H : Hp} {α : Type} {f : α → PyData} {xs : List V} {l : List α} {i : Nat} {a : α} (h : DpAll K H xs (l.map f)) (ha : l[i]? = some a) : ∃ x, xs[i]? = some x ∧ Dp K H x (f a) := by
  have hi : i < (l.map f).length := by
    rw [List.length_map]
    exact (List.getElem?_eq_some_iff.mp ha).1
  obtain ⟨y, d, h1, h2, h3⟩ := dpAll_at i h hi
  rw [List.getElem?_map, ha] at h2
  have ed : f a = d := Option.some.inj h2
  rw [← ed] at h3
  exact ⟨y, h1, h3⟩
theorem dp_tup {K : PySem.W.Frag} {H : Hp} {x : V} {ds : List PyData} (h : Dp K H x (.tuple ds)) : ∃ t xs, x = .ref t ∧ SqT K H t xs ∧ DpAll K H xs ds := by
  cases h with
  | tup h1 h2 => exact ⟨_, _, rfl, h1, h2⟩
theorem dp_ints {K : PySem.W.Frag} {H : Hp} : ∀ {xs : List V} {ns : List Int}, DpAll K H xs (ns.map PyData.int) → xs = ns.map V.int
  | _, [], .nil => rfl
  | _, n :: r, .cons h t => by
    cases h
    rw [dp_ints t]
    rfl
theorem dp_spans {K : PySem.W.Frag} {H : Hp} : ∀ {xs : List V} {qs : List (Int × Int)}, DpAll K H xs (qs.map spanPy) → Spans K H xs qs
  | _, [], .nil => .nil
  | _, q :: r, .cons h t => by
    refine .cons ?_ (dp_spans t)
    obtain ⟨a, xs, rfl, h1, h2⟩ := dp_tup h
    have e := dp_ints (ns := [q.1, q.2]) h2
    subst e
    exact ⟨a, rfl, h1⟩
/-- a satellite's tuple -/
theorem sat_open {K : PySem.W.Frag} {H : Hp} {x : V} {s : SatD} (h : Dp K H x (satPy s)) : ∃ t t1 t2 ls, x = .ref t ∧ SqT K H t [.str s.name, .ref t1, .ref t2] ∧ SqT K H t1 (((satKv s).map (·.2)).map V.int) ∧ SqT K H t2 ls ∧ Spans K H ls s.light := by
  obtain ⟨t, xs, rfl, h1, h2⟩ := dp_tup h
  cases h2 with
  | cons a0 h2 =>
  cases h2 with
  | cons a1 h2 =>
  cases h2 with
  | cons a2 h2 =>
  cases h2
  cases a0
  obtain ⟨t1, x1, rfl, b1, c1⟩ := dp_tup a1
  obtain ⟨t2, x2, rfl, b2, c2⟩ := dp_tup a2
  have e := dp_ints (ns := (satKv s).map (·.2)) c1
  subst e
  exact ⟨t, t1, t2, x2, rfl, h1, b1, b2, dp_spans c2⟩
theorem sta_open {K : PySem.W.Frag} {H : Hp} {x : V} {s : StaD} (h : Dp K H x (staPy s)) : ∃ t, x = .ref t ∧ SqT K H t [.str s.name, .int s.antennas, .int s.turn] := by
  obtain ⟨t, xs, rfl, h1, h2⟩ := dp_tup h
  cases h2 with
  | cons a0 h2 =>
  cases h2 with
  | cons a1 h2 =>
  cases h2 with
  | cons a2 h2 =>
  cases h2
  cases a0
  cases a1
  cases a2
  exact ⟨t, rfl, h1⟩
theorem rec_open {K : PySem.W.Frag} {H : Hp} {x : V} {s : RecD} (h : Dp K H x (recPy s)) : ∃ t t1 t2, x = .ref t ∧ SqT K H t [.str s.name, .int (s.sat : Int), .ref t1, .ref t2] ∧ SqT K H t1 (((recKv s).map (·.2)).map V.int) ∧ SqT K H t2 (((recKu s).map (·.2)).map V.int) := by
  obtain ⟨t, xs, rfl, h1, h2⟩ := dp_tup h
  cases h2 with
  | cons a0 h2 =>
  cases h2 with
  | cons a1 h2 =>
  cases h2 with
  | cons a2 h2 =>
  cases h2 with
  | cons a3 h2 =>
  cases h2
  cases a0
  cases a1
  obtain ⟨t1, x1, rfl, b1, c1⟩ := dp_tup a2
  obtain ⟨t2, x2, rfl, b2, c2⟩ := dp_tup a3
  have e := dp_ints (ns := (recKv s).map (·.2)) c1
  subst e
  have e := dp_ints (ns := (recKu s).map (·.2)) c2
  subst e
  exact ⟨t, t1, t2, rfl, h1, b1, b2⟩
theorem pas_open {K : PySem.W.Frag} {H : Hp} {x : V} {s : PasD} (h : Dp K H x (pasPy s)) : ∃ t t1 t2, x = .ref t ∧ SqT K H t [.str s.name, .int (s.sat : Int), .int (s.sta : Int), .ref t1, .ref t2] ∧ SqT K H t1 [.int s.first, .int s.fin] ∧ SqT K H t2 (((pasKv s).map (·.2)).map V.int) := by
  obtain ⟨t, xs, rfl, h1, h2⟩ := dp_tup h
  cases h2 with
  | cons a0 h2 =>
  cases h2 with
  | cons a1 h2 =>
  cases h2 with
  | cons a2 h2 =>
  cases h2 with
  | cons a3 h2 =>
  cases h2 with
  | cons a4 h2 =>
  cases h2
  cases a0
  cases a1
  cases a2
  obtain ⟨t1, x1, rfl, b1, c1⟩ := dp_tup a3
  obtain ⟨t2, x2, rfl, b2, c2⟩ := dp_tup a4
  have e := dp_ints (ns := [s.first, s.fin]) c1
  subst e
  have e := dp_ints (ns := (pasKv s).map (·.2)) c2
  subst e
  exact ⟨t, t1, t2, rfl, h1, b1, b2⟩
theorem kv_at {l : List (Str × Int)} {i : Nat} {p : Str × Int} (h : l[i]? = some p) : atI ((l.map (·.1)).map V.str) (0 + (i : Int)) = some (.str p.1) ∧ atI ((l.map (·.2)).map V.int) (0 + (i : Int)) = some (.int p.2) := by
  rw [Int.zero_add]
  exact ⟨atI_nat (by rw [List.getElem?_map, List.getElem?_map, h]; rfl), atI_nat (by rw [List.getElem?_map, List.getElem?_map, h]; rfl)⟩
def KvOk (l : List (Str × Int)) : Prop := ∀ p ∈ l, 0 ≤ p.2 ∧ p.2 < 10000000
end DP
namespace DP
open PySem PySem.Spec PyProof.Rows L2
def rStrI : List V → Hp → VK → Prop := fun xs H Q => ∃ i, xs = [.int i] ∧ i.natAbs.log2 < 1920 ∧ Q (.str (Str.ofString (toString i))) H
def tKv (K : PySem.W.Frag) (cs : TA) (j : Nat) : TS :=
  tDrop (tBM K "list" rExtend (tVar 5) (tCons (tLst (tCons (tOp (rIxL K) (tLst cs) (tVar 6)) (tCons (tCB rStrI (tCons (tOp (rIxT K) (tVar j) (tVar 6)) tNil)) tNil))) tNil))
/-- the law's variables -/
abbrev st13 (x0 x1 x2 x3 x4 x5 x6 x7 x8 x9 x10 x11 x12 : Option V) : L2.St := [x0, x1, x2, x3, x4, x5, x6, x7, x8, x9, x10, x11, x12]
theorem sz2_ : 2 ≤ sizeLine := Nat.le_trans (by decide : 2 ≤ 1000) (Nat.le_of_lt (small1000 (Nat.le_refl _)))
theorem kv_run {K : PySem.W.Frag} {cs : TA} {j : Nat} {l : List (Str × Int)} {n : Int} {t1 wa : Addr} {ws : List Str} {H0 H1 : Hp} {D : Ends} {x0 x1 x2 x3 x4 x6 x7 x8 x9 x10 x11 x12 : Option V}
    (hn : n = (l.length : Int)) (hcs : ∀ σ H Q, Q ((l.map (·.1)).map V.str) H → cs σ H Q) (hl : l.length ≤ 10) (hok : KvOk l)
    (n0 : H0 wa = none) (hs : Same H0 H1) (hw : H1 wa = some (.lst (ws.map V.str))) (hb : ws.length ≤ 900) (h1 : SqT K H0 t1 ((l.map (·.2)).map V.int))
    (hj : ∀ y H Q, Q (V.ref t1) H → tVar j (st13 x0 x1 x2 x3 x4 (some (.ref wa)) y x7 x8 x9 x10 x11 x12) H Q)
    (q : ∀ y H2, Same H0 H2 → H2 wa = some (.lst ((ws ++ flat l).map V.str)) → D.nx (st13 x0 x1 x2 x3 x4 (some (.ref wa)) y x7 x8 x9 x10 x11 x12) H2) :
    tFor (iRng1 (tCons (tC (V.int n)) tNil)) (gName 6) (tKv K cs j) D (st13 x0 x1 x2 x3 x4 (some (.ref wa)) x6 x7 x8 x9 x10 x11 x12) H1 := by
  subst hn
  refine ⟨_, rfl, by omega, by omega, for_range (n := (l.length : Int).toNat) (fun i σ H' => ∃ y, σ = st13 x0 x1 x2 x3 x4 (some (.ref wa)) y x7 x8 x9 x10 x11 x12 ∧ Same H0 H' ∧ H' wa = some (.lst ((ws ++ flat (l.take i)).map V.str)))
    ⟨x6, rfl, hs, by rw [List.take_zero]; show _ = some (HO.lst ((ws ++ []).map V.str)); rw [List.append_nil]; exact hw⟩ (fun i σ H' hi hI => ?_) (fun σ H' hI => ?_)⟩
  · obtain ⟨y, rfl, hs', hw'⟩ := hI
    have hi' : i < l.length := by omega
    have hp : l[i]? = some l[i] := List.getElem?_eq_getElem hi'
    obtain ⟨k1, k2⟩ := kv_at hp
    have hk := hok _ (List.mem_of_getElem? hp)
    refine ⟨_, rfl, .inl ⟨rfl, _, SqL.of hw'⟩, hcs _ _ _ ⟨?_, fun p hp1 => ⟨_, rfl, p, _, _, _, rfl, rfl, SqL.of upd_same, k1, ?_⟩⟩⟩
    · rw [List.length_map, List.length_map]; exact small (by omega)
    · dsimp only [tCons, tCB, tOp]
      refine hj (some (V.int (0 + (i : Int)))) _ _ ⟨_, rfl, t1, _, _, _, rfl, rfl, Same.tup (hs'.trans (same_new hp1 _)) h1, k2, _, rfl, log_ok hk.1 hk.2, sz2_, fun b hb1 => ?_⟩
      have nb : wa ≠ b := ne_of_none (same_new hp1 _ _ _ hw') hb1
      have hwb := (same_new hb1 (.lst [.str (l[i]).1, .str (Str.ofString (toString (l[i]).2))])) _ _ (same_new hp1 (.lst ((l.map (·.1)).map V.str)) _ _ hw')
      refine ⟨wa, b, _, _, rfl, rfl, hwb, upd_same, ?_, ?_⟩
      · rw [List.length_map, List.length_append, flat_len, List.length_take]
        exact small (by show _ + 2 ≤ _; omega)
      · refine ⟨_, rfl, same_at n0 (hs'.trans ((same_new hp1 _).trans (same_new hb1 _))) _, ?_⟩
        rw [upd_same, flat_take hp, ← List.append_assoc, List.map_append (l₁ := ws ++ flat (l.take i))]
        rfl
  · obtain ⟨y, rfl, hs', hw'⟩ := hI
    have e : (l.length : Int).toNat = l.length := by omega
    rw [e, List.take_length] at hw'
    exact q y H' hs' hw'
end DP
namespace DP
open PySem PySem.Spec PyProof.Rows L2
def tLight (K : PySem.W.Frag) : TS :=
  tDrop (tBM K "list" rExtend (tVar 5) (tCons (tLst (tCons (tCB rStrI (tCons (tOp (rIxT K) (tVar 7) (tC (V.int 0))) tNil)) (tCons (tCB rStrI (tCons (tOp (rIxT K) (tVar 7) (tC (V.int 1))) tNil)) tNil))) tNil))
theorem light_run {K : PySem.W.Frag} {l : List (Int × Int)} {ls : List V} {t2 wa : Addr} {ws : List Str} {H0 H1 : Hp} {D : Ends} {x0 x1 x2 x3 x6 x7 x8 x9 x10 x11 x12 : Option V}
    (hl : l.length ≤ 500) (hok : ∀ p ∈ l, (0 ≤ p.1 ∧ p.1 < 10000000) ∧ 0 ≤ p.2 ∧ p.2 < 10000000)
    (n0 : H0 wa = none) (hs : Same H0 H1) (hw : H1 wa = some (.lst (ws.map V.str))) (hb : ws.length ≤ 15) (h2 : SqT K H0 t2 ls) (h3 : Spans K H0 ls l) (hz : 2 * l.length + 15 ≤ 1000)
    (q : ∀ y H2, Same H0 H2 → H2 wa = some (.lst ((ws ++ lightW l).map V.str)) → D.nx (st13 x0 x1 x2 x3 (some (.ref t2)) (some (.ref wa)) x6 y x8 x9 x10 x11 x12) H2) :
    tFor (iTup K (tVar 4)) (gName 7) (tLight K) D (st13 x0 x1 x2 x3 (some (.ref t2)) (some (.ref wa)) x6 x7 x8 x9 x10 x11 x12) H1 := by
  have hlen := paired_len h3
  refine ⟨_, rfl, t2, rfl, ⟨_, Same.tup hs h2⟩, for_tup (K := K) (a := t2) (xs := ls) (fun i σ H' => ∃ y, σ = st13 x0 x1 x2 x3 (some (.ref t2)) (some (.ref wa)) x6 y x8 x9 x10 x11 x12 ∧ Same H0 H' ∧ H' wa = some (.lst ((ws ++ lightW (l.take i)).map V.str)))
    ⟨x7, rfl, hs, by rw [List.take_zero]; show _ = some (HO.lst ((ws ++ []).map V.str)); rw [List.append_nil]; exact hw⟩ (fun i σ H' _ hI => ?_) (fun i x σ H' hx hI => ?_) (fun σ H' hI => ?_)⟩
  · obtain ⟨y, rfl, hs', hw'⟩ := hI
    exact Same.tup hs' h2
  · obtain ⟨y, rfl, hs', hw'⟩ := hI
    obtain ⟨p, hp, t, rfl, ht⟩ := paired_at h3 hx
    have hi' : i < l.length := (List.getElem?_eq_some_iff.mp hp).1
    have hk := hok _ (List.mem_of_getElem? hp)
    have ht' := Same.tup hs' ht
    refine ⟨_, rfl, .inl ⟨rfl, _, SqL.of hw'⟩, _, rfl, t, _, 0, _, rfl, rfl, ht', rfl, _, rfl, log_ok hk.1.1 hk.1.2, _, rfl, t, _, 1, _, rfl, rfl, ht', rfl, _, rfl, log_ok hk.2.1 hk.2.2, sz2_, fun b hb1 => ?_⟩
    have nb : wa ≠ b := ne_of_none hw' hb1
    have hwb := (same_new hb1 (.lst [.str (Str.ofString (toString p.1)), .str (Str.ofString (toString p.2))])) _ _ hw'
    refine ⟨wa, b, _, _, rfl, rfl, hwb, upd_same, ?_, ?_⟩
    · rw [List.length_map, List.length_append, lightW_len, List.length_take]
      exact small (by show _ + 2 ≤ _; omega)
    · refine ⟨_, rfl, same_at n0 (hs'.trans (same_new hb1 _)) _, ?_⟩
      rw [upd_same, lightW_take hp, ← List.append_assoc, List.map_append (l₁ := ws ++ lightW (l.take i))]
      rfl
  · obtain ⟨y, rfl, hs', hw'⟩ := hI
    rw [hlen, List.take_length] at hw'
    exact q y H' hs' hw'
theorem lights_lt {h : Int} (hh : h ≤ 80) : ∀ {l : List (Int × Int)} {a : Int}, 0 ≤ a → LightOk a h l → ∀ p ∈ l, (0 ≤ p.1 ∧ p.1 < 10000000) ∧ 0 ≤ p.2 ∧ p.2 < 10000000
  | [], _, _, _, p, hp => absurd hp List.not_mem_nil
  | q :: r, a, ha, ⟨h1, h2, h3, h4⟩, p, hp => by
    rcases List.mem_cons.mp hp with rfl | hp
    · exact ⟨⟨by omega, by omega⟩, by omega, by omega⟩
    · exact lights_lt hh (by omega) h4 p hp
theorem satKv_ok {h : Int} {s : SatD} (ok : SatOk h s) : KvOk (satKv s) := fun p hp => by
  obtain ⟨_, a1, a2, a3, a4, a5, a6, _⟩ := ok
  simp only [satKv, List.mem_cons, List.not_mem_nil, or_false] at hp
  rcases hp with rfl | rfl | rfl | rfl | rfl | rfl <;> dsimp only <;> omega
theorem recKv_ok {W : WorldD} {s : RecD} (hh : W.horizon ≤ 80) (ok : RecOk W s) : KvOk (recKv s) := fun p hp => by
  obtain ⟨_, _, a1, a2, a3, a4, a5, a6, a7, a8⟩ := ok
  simp only [recKv, List.mem_cons, List.not_mem_nil, or_false] at hp
  rcases hp with rfl | rfl | rfl | rfl | rfl <;> dsimp only <;> omega
theorem recKu_ok {W : WorldD} {s : RecD} (hh : W.horizon ≤ 80) (ok : RecOk W s) : KvOk (recKu s) := fun p hp => by
  obtain ⟨_, _, a1, a2, a3, a4, a5, a6, a7, a8⟩ := ok
  simp only [recKu, List.mem_cons, List.not_mem_nil, or_false] at hp
  rcases hp with rfl | rfl | rfl <;> dsimp only <;> omega
theorem pasKv_ok {W : WorldD} {s : PasD} (ok : PasOk W s) : KvOk (pasKv s) := fun p hp => by
  obtain ⟨_, _, _, a1, a2, a3, a4, a5⟩ := ok
  simp only [pasKv, List.mem_cons, List.not_mem_nil, or_false] at hp
  rcases hp with rfl | rfl | rfl <;> dsimp only <;> omega
theorem add_fits {a b : Str} {m n : Nat} (ha : a.length ≤ m) (hb : b.length ≤ n) (h : m + n ≤ 1000) : a.length + b.length ≤ sizeLine := small (by omega)
theorem len_add {a b : Str} {m n : Nat} (ha : a.length ≤ m) (hb : b.length ≤ n) : (a ++ b).length ≤ m + n := by
  rw [TL.len_tl] at ha hb ⊢
  rw [show TL.tl (a ++ b) = TL.tl a ++ TL.tl b from tl_app a b, List.length_append]
  omega
theorem sz4_ : 4 ≤ sizeLine := Nat.le_trans (by decide : 4 ≤ 1000) (Nat.le_of_lt (small1000 (Nat.le_refl _)))
theorem sz6_ : 6 ≤ sizeLine := Nat.le_trans (by decide : 6 ≤ 1000) (Nat.le_of_lt (small1000 (Nat.le_refl _)))
theorem sz10_ : 10 ≤ sizeLine := Nat.le_trans (by decide : 10 ≤ 1000) (Nat.le_of_lt (small1000 (Nat.le_refl _)))
theorem satN_of {W : WorldD} {i : Nat} {s : SatD} (h : W.sats[i]? = some s) : satN W i = s.name := by
  unfold satN
  rw [List.getElem?_map, h]
  rfl
theorem staN_of {W : WorldD} {i : Nat} {s : StaD} (h : W.stas[i]? = some s) : staN W i = s.name := by
  unfold staN
  rw [List.getElem?_map, h]
  rfl
theorem get_h {H : Hp} {wd : Addr} {h : Int} {a b c d : Addr} (g : H wd = some (.dK (wdK h a b c d))) : DGet H wd (.str "horizon") (some (.int h)) := by
  have := DGet.k (k := Sum.inr "horizon") g
  rw [wd_h] at this
  exact this
theorem get_s {H : Hp} {wd : Addr} {h : Int} {a b c d : Addr} (g : H wd = some (.dK (wdK h a b c d))) : DGet H wd (.str "satellites") (some (.ref a)) := by
  have := DGet.k (k := Sum.inr "satellites") g
  rw [wd_s] at this
  exact this
theorem get_t {H : Hp} {wd : Addr} {h : Int} {a b c d : Addr} (g : H wd = some (.dK (wdK h a b c d))) : DGet H wd (.str "stations") (some (.ref b)) := by
  have := DGet.k (k := Sum.inr "stations") g
  rw [wd_t] at this
  exact this
theorem get_r {H : Hp} {wd : Addr} {h : Int} {a b c d : Addr} (g : H wd = some (.dK (wdK h a b c d))) : DGet H wd (.str "recordings") (some (.ref c)) := by
  have := DGet.k (k := Sum.inr "recordings") g
  rw [wd_r] at this
  exact this
theorem get_p {H : Hp} {wd : Addr} {h : Int} {a b c d : Addr} (g : H wd = some (.dK (wdK h a b c d))) : DGet H wd (.str "passes") (some (.ref d)) := by
  have := DGet.k (k := Sum.inr "passes") g
  rw [wd_p] at this
  exact this
theorem app_step {α : Type} {dk : List (List Str)} {f : α → List Str} {l : List α} {i : Nat} {x : α} (h : l[i]? = some x) : (((dk ++ (l.take i).map f).map row).map V.str) ++ [V.str (row (f x))] = ((dk ++ (l.take (i + 1)).map f).map row).map V.str := by
  rw [take_snoc h]
  simp only [List.map_append, List.map_cons, List.map_nil, List.append_assoc]
theorem app_zero {α : Type} {dk : List (List Str)} {f : α → List Str} {l : List α} : ((dk ++ (l.take 0).map f).map row).map V.str = (dk.map row).map V.str := by
  rw [List.take_zero, List.map_nil, List.append_nil]
theorem app_len {α : Type} {dk : List (List Str)} {f : α → List Str} {l : List α} {i n : Nat} (hd : dk.length ≤ n) (hl : l.length ≤ 20) (hn : n ≤ 60) : (((dk ++ (l.take i).map f).map row).map V.str).length < sizeLine := by
  rw [List.length_map, List.length_map, List.length_append, List.length_map, List.length_take]
  exact small1000 (by omega)
def done1 (W : WorldD) : List (List Str) := [wHor W.horizon] ++ W.sats.map wSat
def done2 (W : WorldD) : List (List Str) := done1 W ++ W.stas.map wSta
def done3 (W : WorldD) : List (List Str) := done2 W ++ W.recs.map (wRec W)
def done4 (W : WorldD) : List (List Str) := done3 W ++ W.pass.map (wPas W)
theorem done4_eq (W : WorldD) : done4 W = linesW W := by
  show [wHor W.horizon] ++ W.sats.map wSat ++ W.stas.map wSta ++ W.recs.map (wRec W) ++ W.pass.map (wPas W) = _
  unfold linesW
  simp only [List.append_assoc, List.cons_append, List.nil_append]
theorem wSat_eq (s : SatD) : [Str.ofString "satellite", s.name] ++ flat (satKv s) ++ [Str.ofString "light"] ++ lightW s.light = wSat s := rfl
theorem wRec_eq (W : WorldD) (r : RecD) : [Str.ofString "recording", r.name, Str.ofString "by", satN W r.sat] ++ flat (recKv r) ++ flat (recKu r) = wRec W r := rfl
theorem wPas_eq (W : WorldD) (p : PasD) : [Str.ofString "pass", p.name, Str.ofString "by", satN W p.sat, Str.ofString "over", staN W p.sta] ++ [Str.ofString "from", num p.first, Str.ofString "to", num p.fin] ++ flat (pasKv p) = wPas W p := rfl
theorem join_sp (ws : List Str) : Txt.join (Str.ofString " ") ws = row ws := row_join ws
end DP
namespace DP
open PySem PySem.Spec PyProof.Rows L2
section
variable {P : Program} {w : World} {K : PySem.W.Frag} {mg : Str → Option Value} {base : Heap}
def spLawLines (K : PySem.W.Frag) : Sp := fun vs H Q _ => ∃ (wd : Addr) (W : WorldD), vs = [.ref wd] ∧ WG W ∧ WdAt K H wd W ∧ ∀ L H', Same H H' → H L = none → H' L = some (.lst (((linesW W).map row).map V.str)) → Q (.ref L) H'
set_option maxHeartbeats 8000000 in
theorem d_law_lines (B : Bt mg) (A : At K mg "_law_lines" s__law_lines ["world"]) : DefOk P w K mg base CX0 1 "_law_lines" ["world"] (spLawLines K) := by
  refine A.ok sc__law_lines (fun vs H Q E h => ?_) (fun f cdv A outer s H vs Q E hr h => ?_)
  · obtain ⟨a, ns, rfl, _⟩ := h
    rfl
  obtain ⟨wd, W, rfl, wg, hwd, q⟩ := h
  obtain ⟨a, b, c, d, xa, xb, xc, xd, g, a1, a2, b1, b2, c1, c2, d1, d2⟩ := hwd.ex
  refine ⟨_, pss_cons (ps_set (i := 1) sc__law_lines.nd rfl (Or.inl rfl) (pe_lst (pa_cons (pe_op op_add_str pe_str (pe_callTy (call_str_int) (by rfl) B.str (by decide +kernel) (pa_cons (pe_dget (hu_of hr) (pv 0) pe_str (fun _ _ => rfl)) pa_nil))) pa_nil)))
  (pss_cons (ps_for PassesOwn.never rfl (pi_list (pe_dget (hu_of hr) (pv 0) pe_str (fun _ _ => rfl))) (pg_tup (by rfl) (pgs_cons (pg_name (i := 2) sc__law_lines.nd rfl (Or.inl rfl)) (pgs_cons (pg_name (i := 3) sc__law_lines.nd rfl (Or.inl rfl)) (pgs_cons (pg_name (i := 4) sc__law_lines.nd rfl (Or.inl rfl)) (pgs_nil)))))
      (pss_cons (ps_set (i := 5) sc__law_lines.nd rfl (Or.inl rfl) (pe_lst (pa_cons pe_str (pa_cons (pv 2) pa_nil))))
      (pss_cons (ps_for PassesOwn.never rfl (pi_range1 (by rfl) B.range (pa_cons pe_int pa_nil)) (pg_name (i := 6) sc__law_lines.nd rfl (Or.inl rfl))
          (pss_one (ps_expr (pe_bm PySem.F.plainAttrs_list PySem.F.slot_list_extend PySem.F.type_list_extend mt_extend (pv 5) (pa_cons (pe_lst (pa_cons (pe_ix ix_list (pe_lst (pa_cons pe_str (pa_cons pe_str (pa_cons pe_str (pa_cons pe_str (pa_cons pe_str (pa_cons pe_str pa_nil))))))) (pv 6) (fun _ _ => rfl)) (pa_cons (pe_callTy (call_str_int) (by rfl) B.str (by decide +kernel) (pa_cons (pe_ix ix_tup (pv 3) (pv 6) (fun _ _ => rfl)) pa_nil)) pa_nil))) pa_nil)))))
      (pss_cons (ps_expr (pe_bm PySem.F.plainAttrs_list PySem.F.slot_list_append PySem.F.type_list_append mt_append (pv 5) (pa_cons pe_str pa_nil)))
      (pss_cons (ps_for PassesOwn.never rfl (pi_tup (pv 4)) (pg_name (i := 7) sc__law_lines.nd rfl (Or.inl rfl))
          (pss_one (ps_expr (pe_bm PySem.F.plainAttrs_list PySem.F.slot_list_extend PySem.F.type_list_extend mt_extend (pv 5) (pa_cons (pe_lst (pa_cons (pe_callTy (call_str_int) (by rfl) B.str (by decide +kernel) (pa_cons (pe_ix ix_tup (pv 7) pe_int (fun _ _ => rfl)) pa_nil)) (pa_cons (pe_callTy (call_str_int) (by rfl) B.str (by decide +kernel) (pa_cons (pe_ix ix_tup (pv 7) pe_int (fun _ _ => rfl)) pa_nil)) pa_nil))) pa_nil)))))
      (pss_one (ps_expr (pe_bm PySem.F.plainAttrs_list PySem.F.slot_list_append PySem.F.type_list_append mt_append (pv 1) (pa_cons (pe_join pe_str (pv 5)) pa_nil)))))))))
  (pss_cons (ps_for PassesOwn.never rfl (pi_list (pe_dget (hu_of hr) (pv 0) pe_str (fun _ _ => rfl))) (pg_tup (by rfl) (pgs_cons (pg_name (i := 2) sc__law_lines.nd rfl (Or.inl rfl)) (pgs_cons (pg_name (i := 8) sc__law_lines.nd rfl (Or.inl rfl)) (pgs_cons (pg_name (i := 9) sc__law_lines.nd rfl (Or.inl rfl)) (pgs_nil)))))
      (pss_one (ps_expr (pe_bm PySem.F.plainAttrs_list PySem.F.slot_list_append PySem.F.type_list_append mt_append (pv 1) (pa_cons (pe_op op_add_str (pe_op op_add_str (pe_op op_add_str (pe_op op_add_str (pe_op op_add_str pe_str (pv 2)) pe_str) (pe_callTy (call_str_int) (by rfl) B.str (by decide +kernel) (pa_cons (pv 8) pa_nil))) pe_str) (pe_callTy (call_str_int) (by rfl) B.str (by decide +kernel) (pa_cons (pv 9) pa_nil))) pa_nil)))))
  (pss_cons (ps_for PassesOwn.never rfl (pi_list (pe_dget (hu_of hr) (pv 0) pe_str (fun _ _ => rfl))) (pg_tup (by rfl) (pgs_cons (pg_name (i := 2) sc__law_lines.nd rfl (Or.inl rfl)) (pgs_cons (pg_name (i := 10) sc__law_lines.nd rfl (Or.inl rfl)) (pgs_cons (pg_name (i := 3) sc__law_lines.nd rfl (Or.inl rfl)) (pgs_cons (pg_name (i := 11) sc__law_lines.nd rfl (Or.inl rfl)) (pgs_nil))))))
      (pss_cons (ps_set (i := 5) sc__law_lines.nd rfl (Or.inl rfl) (pe_lst (pa_cons pe_str (pa_cons (pv 2) (pa_cons pe_str (pa_cons (pe_ix ix_tup (pe_ix ix_list (pe_dget (hu_of hr) (pv 0) pe_str (fun _ _ => rfl)) (pv 10) (fun _ _ => rfl)) pe_int (fun _ _ => rfl)) pa_nil))))))
      (pss_cons (ps_for PassesOwn.never rfl (pi_range1 (by rfl) B.range (pa_cons pe_int pa_nil)) (pg_name (i := 6) sc__law_lines.nd rfl (Or.inl rfl))
          (pss_one (ps_expr (pe_bm PySem.F.plainAttrs_list PySem.F.slot_list_extend PySem.F.type_list_extend mt_extend (pv 5) (pa_cons (pe_lst (pa_cons (pe_ix ix_list (pe_lst (pa_cons pe_str (pa_cons pe_str (pa_cons pe_str (pa_cons pe_str (pa_cons pe_str pa_nil)))))) (pv 6) (fun _ _ => rfl)) (pa_cons (pe_callTy (call_str_int) (by rfl) B.str (by decide +kernel) (pa_cons (pe_ix ix_tup (pv 3) (pv 6) (fun _ _ => rfl)) pa_nil)) pa_nil))) pa_nil)))))
      (pss_cons (ps_for PassesOwn.never rfl (pi_range1 (by rfl) B.range (pa_cons pe_int pa_nil)) (pg_name (i := 6) sc__law_lines.nd rfl (Or.inl rfl))
          (pss_one (ps_expr (pe_bm PySem.F.plainAttrs_list PySem.F.slot_list_extend PySem.F.type_list_extend mt_extend (pv 5) (pa_cons (pe_lst (pa_cons (pe_ix ix_list (pe_lst (pa_cons pe_str (pa_cons pe_str (pa_cons pe_str pa_nil)))) (pv 6) (fun _ _ => rfl)) (pa_cons (pe_callTy (call_str_int) (by rfl) B.str (by decide +kernel) (pa_cons (pe_ix ix_tup (pv 11) (pv 6) (fun _ _ => rfl)) pa_nil)) pa_nil))) pa_nil)))))
      (pss_one (ps_expr (pe_bm PySem.F.plainAttrs_list PySem.F.slot_list_append PySem.F.type_list_append mt_append (pv 1) (pa_cons (pe_join pe_str (pv 5)) pa_nil))))))))
  (pss_cons (ps_for PassesOwn.never rfl (pi_list (pe_dget (hu_of hr) (pv 0) pe_str (fun _ _ => rfl))) (pg_tup (by rfl) (pgs_cons (pg_name (i := 2) sc__law_lines.nd rfl (Or.inl rfl)) (pgs_cons (pg_name (i := 10) sc__law_lines.nd rfl (Or.inl rfl)) (pgs_cons (pg_name (i := 12) sc__law_lines.nd rfl (Or.inl rfl)) (pgs_cons (pg_name (i := 7) sc__law_lines.nd rfl (Or.inl rfl)) (pgs_cons (pg_name (i := 3) sc__law_lines.nd rfl (Or.inl rfl)) (pgs_nil)))))))
      (pss_cons (ps_set (i := 5) sc__law_lines.nd rfl (Or.inl rfl) (pe_lst (pa_cons pe_str (pa_cons (pv 2) (pa_cons pe_str (pa_cons (pe_ix ix_tup (pe_ix ix_list (pe_dget (hu_of hr) (pv 0) pe_str (fun _ _ => rfl)) (pv 10) (fun _ _ => rfl)) pe_int (fun _ _ => rfl)) (pa_cons pe_str (pa_cons (pe_ix ix_tup (pe_ix ix_list (pe_dget (hu_of hr) (pv 0) pe_str (fun _ _ => rfl)) (pv 12) (fun _ _ => rfl)) pe_int (fun _ _ => rfl)) pa_nil))))))))
      (pss_cons (ps_expr (pe_bm PySem.F.plainAttrs_list PySem.F.slot_list_extend PySem.F.type_list_extend mt_extend (pv 5) (pa_cons (pe_lst (pa_cons pe_str (pa_cons (pe_callTy (call_str_int) (by rfl) B.str (by decide +kernel) (pa_cons (pe_ix ix_tup (pv 7) pe_int (fun _ _ => rfl)) pa_nil)) (pa_cons pe_str (pa_cons (pe_callTy (call_str_int) (by rfl) B.str (by decide +kernel) (pa_cons (pe_ix ix_tup (pv 7) pe_int (fun _ _ => rfl)) pa_nil)) pa_nil))))) pa_nil)))
      (pss_cons (ps_for PassesOwn.never rfl (pi_range1 (by rfl) B.range (pa_cons pe_int pa_nil)) (pg_name (i := 6) sc__law_lines.nd rfl (Or.inl rfl))
          (pss_one (ps_expr (pe_bm PySem.F.plainAttrs_list PySem.F.slot_list_extend PySem.F.type_list_extend mt_extend (pv 5) (pa_cons (pe_lst (pa_cons (pe_ix ix_list (pe_lst (pa_cons pe_str (pa_cons pe_str (pa_cons pe_str pa_nil)))) (pv 6) (fun _ _ => rfl)) (pa_cons (pe_callTy (call_str_int) (by rfl) B.str (by decide +kernel) (pa_cons (pe_ix ix_tup (pv 3) (pv 6) (fun _ _ => rfl)) pa_nil)) pa_nil))) pa_nil)))))
      (pss_one (ps_expr (pe_bm PySem.F.plainAttrs_list PySem.F.slot_list_append PySem.F.type_list_append mt_append (pv 1) (pa_cons (pe_join pe_str (pv 5)) pa_nil))))))))
  (pss_one (ps_ret (pv 1)))))))
    , ?_⟩
  have h80 := wg.h80
  have ho := wg.ok.horizon
  refine ⟨_, rfl, wd, _, rfl, get_h g, _, rfl, log_ok (by omega) (by omega), _, _, rfl, rfl, ?_⟩
  refine ⟨by have := num_len (n := W.horizon) (by omega) (by omega); have e : (Str.ofString "horizon ").length = 8 := (by decide +kernel); exact small (by show (Str.ofString "horizon ").length + (num W.horizon).length ≤ 1000; omega), Nat.le_trans (by decide : 1 ≤ 1000) (Nat.le_of_lt (small1000 (Nat.le_refl _))), fun L hL => ?_⟩
  have eL : (upd H L (.lst [.str ((Str.ofString "horizon " : Str) ++ Str.ofString (toString W.horizon))])) L = some (.lst (([wHor W.horizon].map row).map V.str)) := by
    rw [upd_same]
    show some (HO.lst [V.str ((Str.ofString "horizon " : Str) ++ num W.horizon)]) = _
    rw [row_hor]
    rfl
  have s1 := same_new hL (.lst [.str ((Str.ofString "horizon " : Str) ++ Str.ofString (toString W.horizon))])
  generalize (upd H L (.lst [.str ((Str.ofString "horizon " : Str) ++ Str.ofString (toString W.horizon))])) = H1 at eL s1
  -- satellites
  refine ⟨_, rfl, wd, _, rfl, get_s (s1 _ _ g), a, rfl, ⟨_, SqL.of (s1 _ _ a1)⟩, for_list (K := K) (a := a) (xs := xa) (fun i σ H' => ∃ y2 y3 y4 y5 y6 y7, σ = st13 (some (.ref wd)) (some (.ref L)) y2 y3 y4 y5 y6 y7 none none none none none ∧ Same H H' ∧ H' L = some (.lst ((([wHor W.horizon] ++ (W.sats.take i).map wSat).map row).map V.str)))
    ⟨none, none, none, none, none, none, rfl, s1, by rw [app_zero]; exact eL⟩ (fun i σ H' _ hI => ?_) (fun i x σ H' hx hI => ?_) (fun σ H' hI => ?_)⟩
  · obtain ⟨y2, y3, y4, y5, y6, y7, rfl, hs, hLL⟩ := hI
    exact SqL.of (hs _ _ a1)
  · obtain ⟨y2, y3, y4, y5, y6, y7, rfl, hs, hLL⟩ := hI
    obtain ⟨z, hz, hd⟩ := dpAll_get a2 hx
    have ok := wg.ok.sats z (List.mem_of_getElem? hz)
    obtain ⟨t, t1, t2, ls, rfl, k1, k2, k3, k4⟩ := sat_open hd
    have k1 := Same.tup hs k1
    have k2 := Same.tup hs k2
    have k3 := Same.tup hs k3
    have k4 := k4.same hs
    refine ⟨t, _, rfl, k1, rfl, ⟨_, _, rfl, _, _, rfl, _, _, rfl, rfl, ?_⟩⟩
    refine ⟨_, rfl, sz2_, fun wa hwa => ?_⟩
    have eL2 : L ≠ wa := ne_of_none hLL hwa
    have ll := ok.light.len (by omega)
    have lb := lights_lt h80 (Int.le_refl 0) ok.light
    refine kv_run (l := satKv z) (ws := [Str.ofString "satellite", z.name]) rfl (fun _ _ _ h => h) (by show 6 ≤ 10; decide) (satKv_ok ok) hwa (same_new hwa _) upd_same (by show 2 ≤ 900; decide) k2 (fun y H Q h => ⟨_, rfl, h⟩) (fun y H2 s2 hw2 => ?_)
    refine ⟨_, rfl, .inl ⟨rfl, _, SqL.of hw2⟩, wa, _, _, rfl, rfl, hw2, (by rw [List.length_map]; exact small1000 (by show 14 ≤ 1000; decide)), ?_⟩
    refine light_run (l := z.light) (ws := [Str.ofString "satellite", z.name] ++ flat (satKv z) ++ [Str.ofString "light"]) (by omega) lb hwa (same_at hwa s2 _) (by rw [upd_same]; rfl) (by show 15 ≤ 15; decide) k3 k4 (by omega) (fun y' H3 s3 hw3 => ?_)
    have hl3 := s3 _ _ hLL
    rw [wSat_eq] at hw3
    have okw := wSat_wd ho.2 ok
    refine ⟨_, rfl, .inl ⟨rfl, _, SqL.of hl3⟩, ⟨_, rfl⟩, _, rfl, _, wa, _, rfl, rfl, .inl (SqL.of hw3), join_fits okw (by rw [← wSat_eq, List.length_append, lightW_len]; show 15 + _ ≤ _; omega), L, _, _, rfl, rfl, hl3, app_len (n := 1) (Nat.le_refl 1) (by have := wg.ok.nSats; omega) (by decide), ?_⟩
    refine ⟨_, _, _, _, _, _, rfl, same_at hL (hs.trans s3) _, ?_⟩
    rw [upd_same, join_sp, app_step hz]
  obtain ⟨y2, y3, y4, y5, y6, y7, rfl, hs1, hL1⟩ := hI
  rw [dpAll_len a2, List.length_map, List.take_length, show [wHor W.horizon] ++ W.sats.map wSat = done1 W from rfl] at hL1
  have n1 : (done1 W).length ≤ 4 := by
    show ([wHor W.horizon] ++ W.sats.map wSat).length ≤ 4
    rw [List.length_append, List.length_map]
    have := wg.ok.nSats
    show 1 + _ ≤ 4
    omega
  clear s1 eL
  -- stations
  refine ⟨_, rfl, wd, _, rfl, get_t (hs1 _ _ g), b, rfl, ⟨_, SqL.of (hs1 _ _ b1)⟩, for_list (K := K) (a := b) (xs := xb) (fun i σ H' => ∃ y2 y3 y4 y5 y6 y7 y8 y9, σ = st13 (some (.ref wd)) (some (.ref L)) y2 y3 y4 y5 y6 y7 y8 y9 none none none ∧ Same H H' ∧ H' L = some (.lst (((done1 W ++ (W.stas.take i).map wSta).map row).map V.str)))
    ⟨y2, y3, y4, y5, y6, y7, none, none, rfl, hs1, by rw [app_zero]; exact hL1⟩ (fun i σ H' _ hI => ?_) (fun i x σ H' hx hI => ?_) (fun σ H2 hI => ?_)⟩
  · obtain ⟨y2, y3, y4, y5, y6, y7, y8, y9, rfl, hs, hLL⟩ := hI
    exact SqL.of (hs _ _ b1)
  · obtain ⟨y2, y3, y4, y5, y6, y7, y8, y9, rfl, hs, hLL⟩ := hI
    obtain ⟨z, hz, hd⟩ := dpAll_get b2 hx
    have ok := wg.ok.stas z (List.mem_of_getElem? hz)
    obtain ⟨t, rfl, k1⟩ := sta_open hd
    have k1 := Same.tup hs k1
    have l1 : (Str.ofString "station " : Str).length ≤ 8 := by decide +kernel
    have l2 := len_add l1 (name_len ok.name)
    have l3 := len_add l2 (show (Str.ofString " antennas " : Str).length ≤ 10 by decide +kernel)
    have l4 := len_add l3 (num_len (n := z.antennas) (by have := ok.antennas; omega) (by have := ok.antennas; omega))
    have l5 := len_add l4 (show (Str.ofString " turn " : Str).length ≤ 6 by decide +kernel)
    have l6 := num_len (n := z.turn) (by have := ok.turn; omega) (by have := ok.turn; omega)
    refine ⟨t, _, rfl, k1, rfl, ⟨_, _, rfl, _, _, rfl, _, _, rfl, rfl, ?_⟩⟩
    refine ⟨_, rfl, .inl ⟨rfl, _, SqL.of hLL⟩, _, rfl, _, _, rfl, rfl, add_fits l1 (name_len ok.name) (by decide), _, _, rfl, rfl, add_fits l2 (show (Str.ofString " antennas " : Str).length ≤ 10 by decide +kernel) (by decide), _, rfl, _, rfl, log_ok (by have := ok.antennas; omega) (by have := ok.antennas; omega),
      _, _, rfl, rfl, add_fits l3 (num_len (n := z.antennas) (by have := ok.antennas; omega) (by have := ok.antennas; omega)) (by decide), _, _, rfl, rfl, add_fits l4 (show (Str.ofString " turn " : Str).length ≤ 6 by decide +kernel) (by decide), _, rfl, _, rfl, log_ok (by have := ok.turn; omega) (by have := ok.turn; omega), _, _, rfl, rfl, add_fits l5 l6 (by decide),
      L, _, _, rfl, rfl, hLL, app_len n1 (by have := wg.ok.nStas; omega) (by decide), ?_⟩
    refine ⟨_, _, _, _, _, _, _, _, rfl, same_at hL hs _, ?_⟩
    rw [upd_same, show (Str.ofString "station " ++ z.name ++ Str.ofString " antennas " ++ Str.ofString (toString z.antennas) ++ Str.ofString " turn " ++ Str.ofString (toString z.turn) : Str) = row (wSta z) from row_sta z, app_step hz]
  obtain ⟨y2, y3, y4, y5, y6, y7, y8, y9, rfl, hs2, hL2⟩ := hI
  rw [dpAll_len b2, List.length_map, List.take_length, show done1 W ++ W.stas.map wSta = done2 W from rfl] at hL2
  have n2 : (done2 W).length ≤ 7 := by
    show (done1 W ++ W.stas.map wSta).length ≤ 7
    rw [List.length_append, List.length_map]
    have := wg.ok.nStas
    omega
  clear hs1 hL1
  -- recordings
  refine ⟨_, rfl, wd, _, rfl, get_r (hs2 _ _ g), c, rfl, ⟨_, SqL.of (hs2 _ _ c1)⟩, for_list (K := K) (a := c) (xs := xc) (fun i σ H' => ∃ y2 y3 y4 y5 y6 y7 y8 y9 y10 y11, σ = st13 (some (.ref wd)) (some (.ref L)) y2 y3 y4 y5 y6 y7 y8 y9 y10 y11 none ∧ Same H H' ∧ H' L = some (.lst (((done2 W ++ (W.recs.take i).map (wRec W)).map row).map V.str)))
    ⟨y2, y3, y4, y5, y6, y7, y8, y9, none, none, rfl, hs2, by rw [app_zero]; exact hL2⟩ (fun i σ H' _ hI => ?_) (fun i x σ H' hx hI => ?_) (fun σ H3 hI => ?_)⟩
  · obtain ⟨y2, y3, y4, y5, y6, y7, y8, y9, y10, y11, rfl, hs, hLL⟩ := hI
    exact SqL.of (hs _ _ c1)
  · obtain ⟨y2, y3, y4, y5, y6, y7, y8, y9, y10, y11, rfl, hs, hLL⟩ := hI
    obtain ⟨z, hz, hd⟩ := dpAll_get c2 hx
    have ok := wg.ok.recs z (List.mem_of_getElem? hz)
    obtain ⟨t, t1, t2, rfl, k1, k2, k3⟩ := rec_open hd
    have k1 := Same.tup hs k1
    have k2 := Same.tup hs k2
    have k3 := Same.tup hs k3
    obtain ⟨xS, eS, dS⟩ := dpAll_get2 a2 (List.getElem?_eq_getElem ok.sat)
    obtain ⟨tS, tS1, tS2, lS, rfl, m1, _, _, _⟩ := sat_open dS
    have m1 := Same.tup hs m1
    rw [← satN_of (List.getElem?_eq_getElem ok.sat)] at m1
    refine ⟨t, _, rfl, k1, rfl, ⟨_, _, rfl, _, _, rfl, _, _, rfl, _, _, rfl, rfl, ?_⟩⟩
    refine ⟨_, rfl, _, rfl, wd, _, rfl, get_s (hs _ _ g), _, rfl, a, _, _, _, rfl, rfl, SqL.of (hs _ _ a1), atI_nat eS, tS, _, 0, _, rfl, rfl, m1, rfl, sz4_, fun wa hwa => ?_⟩
    have eL2 : L ≠ wa := ne_of_none hLL hwa
    refine kv_run (l := recKv z) (ws := [Str.ofString "recording", z.name, Str.ofString "by", satN W z.sat]) rfl (fun _ _ _ h => h) (by show 5 ≤ 10; decide) (recKv_ok h80 ok) hwa (same_new hwa _) upd_same (by show 4 ≤ 900; decide) k2 (fun y H Q h => ⟨_, rfl, h⟩) (fun y H4 s4 hw4 => ?_)
    refine kv_run (l := recKu z) (ws := [Str.ofString "recording", z.name, Str.ofString "by", satN W z.sat] ++ flat (recKv z)) rfl (fun _ _ _ h => h) (by show 3 ≤ 10; decide) (recKu_ok h80 ok) hwa s4 hw4 (by show 14 ≤ 900; decide) k3 (fun y H Q h => ⟨_, rfl, h⟩) (fun y H5 s5 hw5 => ?_)
    have hl5 := s5 _ _ hLL
    rw [wRec_eq] at hw5
    have okw := wRec_wd wg.ok ok
    refine ⟨_, rfl, .inl ⟨rfl, _, SqL.of hl5⟩, ⟨_, rfl⟩, _, rfl, _, wa, _, rfl, rfl, .inl (SqL.of hw5), join_fits okw (by show 20 ≤ 1015; decide), L, _, _, rfl, rfl, hl5, app_len n2 (by have := wg.ok.nRecs; omega) (by decide), ?_⟩
    refine ⟨_, _, _, _, _, _, _, _, _, _, rfl, same_at hL (hs.trans s5) _, ?_⟩
    rw [upd_same, join_sp, app_step hz]
  obtain ⟨y2, y3, y4, y5, y6, y7, y8, y9, y10, y11, rfl, hs3, hL3⟩ := hI
  rw [dpAll_len c2, List.length_map, List.take_length, show done2 W ++ W.recs.map (wRec W) = done3 W from rfl] at hL3
  have n3 : (done3 W).length ≤ 17 := by
    show (done2 W ++ W.recs.map (wRec W)).length ≤ 17
    rw [List.length_append, List.length_map]
    have := wg.ok.nRecs
    omega
  clear hs2 hL2
  -- passes
  refine ⟨_, rfl, wd, _, rfl, get_p (hs3 _ _ g), d, rfl, ⟨_, SqL.of (hs3 _ _ d1)⟩, for_list (K := K) (a := d) (xs := xd) (fun i σ H' => ∃ y2 y3 y4 y5 y6 y7 y8 y9 y10 y11 y12, σ = st13 (some (.ref wd)) (some (.ref L)) y2 y3 y4 y5 y6 y7 y8 y9 y10 y11 y12 ∧ Same H H' ∧ H' L = some (.lst (((done3 W ++ (W.pass.take i).map (wPas W)).map row).map V.str)))
    ⟨y2, y3, y4, y5, y6, y7, y8, y9, y10, y11, none, rfl, hs3, by rw [app_zero]; exact hL3⟩ (fun i σ H' _ hI => ?_) (fun i x σ H' hx hI => ?_) (fun σ H4 hI => ?_)⟩
  · obtain ⟨y2, y3, y4, y5, y6, y7, y8, y9, y10, y11, y12, rfl, hs, hLL⟩ := hI
    exact SqL.of (hs _ _ d1)
  · obtain ⟨y2, y3, y4, y5, y6, y7, y8, y9, y10, y11, y12, rfl, hs, hLL⟩ := hI
    obtain ⟨z, hz, hd⟩ := dpAll_get d2 hx
    have ok := wg.ok.pass z (List.mem_of_getElem? hz)
    obtain ⟨t, t1, t2, rfl, k1, k2, k3⟩ := pas_open hd
    have k1 := Same.tup hs k1
    have k2 := Same.tup hs k2
    have k3 := Same.tup hs k3
    obtain ⟨xS, eS, dS⟩ := dpAll_get2 a2 (List.getElem?_eq_getElem ok.sat)
    obtain ⟨tS, tS1, tS2, lS, rfl, m1, _, _, _⟩ := sat_open dS
    have m1 := Same.tup hs m1
    rw [← satN_of (List.getElem?_eq_getElem ok.sat)] at m1
    obtain ⟨xT, eT, dT⟩ := dpAll_get2 b2 (List.getElem?_eq_getElem ok.sta)
    obtain ⟨tT, rfl, m2⟩ := sta_open dT
    have m2 := Same.tup hs m2
    rw [← staN_of (List.getElem?_eq_getElem ok.sta)] at m2
    have f0 : 0 ≤ z.first ∧ z.first < 10000000 := by have := ok.first; omega
    have f1 : 0 ≤ z.fin ∧ z.fin < 10000000 := by have := ok.first; have := ok.fin; omega
    refine ⟨t, _, rfl, k1, rfl, ⟨_, _, rfl, _, _, rfl, _, _, rfl, _, _, rfl, _, _, rfl, rfl, ?_⟩⟩
    refine ⟨_, rfl, _, rfl, wd, _, rfl, get_s (hs _ _ g), _, rfl, a, _, _, _, rfl, rfl, SqL.of (hs _ _ a1), atI_nat eS, tS, _, 0, _, rfl, rfl, m1, rfl, _, rfl, wd, _, rfl, get_t (hs _ _ g), _, rfl, b, _, _, _, rfl, rfl, SqL.of (hs _ _ b1), atI_nat eT, tT, _, 0, _, rfl, rfl, m2, rfl, sz6_, fun wa hwa => ?_⟩
    have eL2 : L ≠ wa := ne_of_none hLL hwa
    have sw := same_new hwa (.lst ([Str.ofString "pass", z.name, Str.ofString "by", satN W z.sat, Str.ofString "over", staN W z.sta].map V.str))
    refine ⟨_, rfl, .inl ⟨rfl, _, SqL.of upd_same⟩, _, rfl, t1, _, 0, _, rfl, rfl, Same.tup sw k2, rfl, _, rfl, log_ok f0.1 f0.2, _, rfl, t1, _, 1, _, rfl, rfl, Same.tup sw k2, rfl, _, rfl, log_ok f1.1 f1.2, sz4_, fun wb hwb => ?_⟩
    have sx := same_new hwb (.lst ([Str.ofString "from", num z.first, Str.ofString "to", num z.fin].map V.str))
    refine ⟨wa, wb, _, _, rfl, rfl, sx _ _ upd_same, upd_same, sz10_, ?_⟩
    refine kv_run (l := pasKv z) (ws := [Str.ofString "pass", z.name, Str.ofString "by", satN W z.sat, Str.ofString "over", staN W z.sta] ++ [Str.ofString "from", num z.first, Str.ofString "to", num z.fin]) rfl (fun _ _ _ h => h) (by show 3 ≤ 10; decide) (pasKv_ok ok) hwa (same_at hwa (sw.trans sx) _) upd_same (by show 10 ≤ 900; decide) k3 (fun y H Q h => ⟨_, rfl, h⟩) (fun y H5 s5 hw5 => ?_)
    have hl5 := s5 _ _ hLL
    rw [wPas_eq] at hw5
    have okw := wPas_wd wg.ok ok
    refine ⟨_, rfl, .inl ⟨rfl, _, SqL.of hl5⟩, ⟨_, rfl⟩, _, rfl, _, wa, _, rfl, rfl, .inl (SqL.of hw5), join_fits okw (by show 16 ≤ 1015; decide), L, _, _, rfl, rfl, hl5, app_len n3 (by have := wg.ok.nPass; omega) (by decide), ?_⟩
    refine ⟨_, _, _, _, _, _, _, _, _, _, _, rfl, same_at hL (hs.trans s5) _, ?_⟩
    rw [upd_same, join_sp, app_step hz]
  obtain ⟨y2, y3, y4, y5, y6, y7, y8, y9, y10, y11, y12, rfl, hs4, hL4⟩ := hI
  rw [dpAll_len d2, List.length_map, List.take_length, show done3 W ++ W.pass.map (wPas W) = done4 W from rfl, done4_eq] at hL4
  exact ⟨_, rfl, q L _ hs4 hL hL4⟩
end
end DP
namespace DP
open PySem PySem.Spec PyProof.Rows L2
section
variable {P : Program} {w : World} {K : PySem.W.Frag} {mg : Str → Option Value} {base : Heap}
theorem fit_big {n : Nat} (h : n ≤ 17256) : n ≤ sizeLine := Nat.le_trans h (by unfold sizeLine; decide)
def spLawText (K : PySem.W.Frag) : Sp := fun vs H Q _ => ∃ (wd : Addr) (W : WorldD), vs = [.ref wd] ∧ WG W ∧ WdAt K H wd W ∧ ∀ H', Same H H' → Q (.str (textW W)) H'
set_option maxHeartbeats 8000000 in
theorem d_law_text (B : Bt mg) (D_law_lines : DefOk P w K mg base CX0 1 "_law_lines" ["world"] (spLawLines K)) (A : At K mg "_law_text" s__law_text ["world"]) : DefOk P w K mg base CX0 2 "_law_text" ["world"] (spLawText K) := by
  refine A.ok sc__law_text (fun vs H Q E h => ?_) (fun f cdv A outer s H vs Q E hr h => ?_)
  · obtain ⟨a, ns, rfl, _⟩ := h
    rfl
  obtain ⟨wd, W, rfl, wg, hwd, q⟩ := h
  refine ⟨_, pss_one (ps_ret (pe_join pe_str (pe_lc (own := [("line", 1)])  rfl sc__law_text.nd (pi_list (pe_f D_law_lines (hr.mono (by omega)) pass0 (pa_cons (pv 0) pa_nil))) (blkOk_by (own := [("line", 1)]) (N := ["world", "line"]) (sc := defScope s__law_text) (by decide +kernel)) (fun _ _ _ _ _ => pg_name (i := 1) sc__law_text.nd rfl (Or.inl rfl)) (fun _ _ _ _ _ => pts_nil) (fun _ _ _ _ _ => (pe_op op_add_str (pv 1) pe_str)))))
    , ?_⟩
  have lok : ∀ r ∈ (linesW W).map row, r.length ≤ 1015 * 17 := fun r hr => by
    obtain ⟨l, hl, rfl⟩ := List.mem_map.mp hr
    obtain ⟨_, h2, h3⟩ := linesW_ok wg.ok l hl
    exact Nat.le_trans (row_len h2) (Nat.mul_le_mul_right _ h3)
  have lln := linesW_len wg.ok
  obtain ⟨rows, er⟩ : ∃ r, (linesW W).map row = r := ⟨_, rfl⟩
  have lrw : rows.length ≤ 27 := by rw [← er, List.length_map]; exact lln
  have gq : Txt.join (Str.ofString "") (rows.map fun r => r ++ nl) = textW W := by
    rw [show (Str.ofString "" : Str) = Str.empty from rfl, join_nl, ← er]
    rfl
  rw [er] at lok
  refine ⟨⟨_, rfl⟩, _, rfl, wd, W, rfl, wg, hwd, fun L H1 s1 hL0 hL => ?_⟩
  rw [er] at hL
  refine ⟨L, rfl, ⟨_, SqL.of hL⟩, fun D hD => ?_⟩
  refine lc_list (K := K) (a := L) (xs := rows.map V.str) (fun i H' => Same H1 H' ∧ H' D = some (.lst (((rows.take i).map fun r => r ++ nl).map V.str))) ⟨same_new hD _, upd_same⟩ (fun i H' _ h => h.1.seq (SqL.of hL)) (fun i x H2 hx hI => ?_) (fun H2 hI => ?_)
  · obtain ⟨hs, hDD⟩ := hI
    rw [List.getElem?_map] at hx
    cases e : rows[i]? with
    | none => rw [e] at hx; cases hx
    | some r =>
      rw [e] at hx
      have ex : V.str r = x := Option.some.inj hx
      subst ex
      have hr1 := lok r (List.mem_of_getElem? e)
      have nl1 : (Str.ofString "\n" : Str).length ≤ 1 := by decide +kernel
      refine ⟨rfl, _, rfl, _, _, rfl, rfl, fit_big (by omega), _, hDD, ?_, same_at hD hs _, ?_⟩
      · rw [List.length_map, List.length_map, List.length_take]
        exact small1000 (by omega)
      · rw [upd_same, take_snoc e]
        simp only [List.map_append, List.map_cons, List.map_nil]
        rfl
  · obtain ⟨hs, hDD⟩ := hI
    rw [List.length_map, List.take_length] at hDD
    refine ⟨_, D, _, rfl, rfl, .inl (SqL.of hDD), ?_, ?_⟩
    · have b : ∀ l : List Str, (∀ r ∈ l, r.length ≤ 1015 * 17) → ((l.map fun r => r ++ nl).map fun x => x.length).sum ≤ 17256 * l.length := fun l => by
        induction l with
        | nil => exact fun _ => Nat.zero_le _
        | cons x r ih =>
          intro hl
          have h1 := ih fun z hz => hl z (List.mem_cons_of_mem _ hz)
          have h2 := len_add (hl x List.mem_cons_self) (show nl.length ≤ 1 by decide +kernel)
          simp only [List.map_cons, List.sum_cons, List.length_cons]
          omega
      have := b rows lok
      rw [show (Str.ofString "" : Str).length = 0 from rfl]
      omega
    · rw [gq]
      exact q H2 (s1.trans hs)
end
end DP
namespace DP
open PySem PySem.Spec PyProof.Rows L2
theorem lk_Satellite_battery {s : SatD} {t : Addr} : List.lookup ("battery" : Str) (satF s t) = some (.int s.battery : V) := by unfold satF; repeat (first | exact lk_hit | rw [lk_miss (by decide +kernel)])
theorem lk_Satellite_start_level {s : SatD} {t : Addr} : List.lookup ("start_level" : Str) (satF s t) = some (.int s.level : V) := by unfold satF; repeat (first | exact lk_hit | rw [lk_miss (by decide +kernel)])
theorem lk_Satellite_charge {s : SatD} {t : Addr} : List.lookup ("charge" : Str) (satF s t) = some (.int s.charge : V) := by unfold satF; repeat (first | exact lk_hit | rw [lk_miss (by decide +kernel)])
theorem lk_Satellite_light {s : SatD} {t : Addr} : List.lookup ("light" : Str) (satF s t) = some (.ref t : V) := by unfold satF; repeat (first | exact lk_hit | rw [lk_miss (by decide +kernel)])
theorem lk_Station_antennas {s : StaD} : List.lookup ("antennas" : Str) (staF s) = some (.int s.antennas : V) := by unfold staF; repeat (first | exact lk_hit | rw [lk_miss (by decide +kernel)])
theorem lk_Recording_satellite {r : RecD} : List.lookup ("satellite" : Str) (recF r) = some (.int (r.sat : Int) : V) := by unfold recF; repeat (first | exact lk_hit | rw [lk_miss (by decide +kernel)])
theorem lk_Recording_earliest {r : RecD} : List.lookup ("earliest" : Str) (recF r) = some (.int r.earliest : V) := by unfold recF; repeat (first | exact lk_hit | rw [lk_miss (by decide +kernel)])
theorem lk_Recording_latest {r : RecD} : List.lookup ("latest" : Str) (recF r) = some (.int r.latest : V) := by unfold recF; repeat (first | exact lk_hit | rw [lk_miss (by decide +kernel)])
theorem lk_Recording_length {r : RecD} : List.lookup ("length" : Str) (recF r) = some (.int r.length : V) := by unfold recF; repeat (first | exact lk_hit | rw [lk_miss (by decide +kernel)])
theorem lk_Recording_size {r : RecD} : List.lookup ("size" : Str) (recF r) = some (.int r.size : V) := by unfold recF; repeat (first | exact lk_hit | rw [lk_miss (by decide +kernel)])
theorem lk_Recording_energy {r : RecD} : List.lookup ("energy" : Str) (recF r) = some (.int r.energy : V) := by unfold recF; repeat (first | exact lk_hit | rw [lk_miss (by decide +kernel)])
theorem lk_Recording_deadline {r : RecD} : List.lookup ("deadline" : Str) (recF r) = some (.int r.deadline : V) := by unfold recF; repeat (first | exact lk_hit | rw [lk_miss (by decide +kernel)])
theorem lk_Pass_satellite {p : PasD} {t : Addr} : List.lookup ("satellite" : Str) (pasF p t) = some (.int (p.sat : Int) : V) := by unfold pasF; repeat (first | exact lk_hit | rw [lk_miss (by decide +kernel)])
theorem lk_Pass_station {p : PasD} {t : Addr} : List.lookup ("station" : Str) (pasF p t) = some (.int (p.sta : Int) : V) := by unfold pasF; repeat (first | exact lk_hit | rw [lk_miss (by decide +kernel)])
theorem lk_Pass_span {p : PasD} {t : Addr} : List.lookup ("span" : Str) (pasF p t) = some (.ref t : V) := by unfold pasF; repeat (first | exact lk_hit | rw [lk_miss (by decide +kernel)])
theorem lk_Pass_energy {p : PasD} {t : Addr} : List.lookup ("energy" : Str) (pasF p t) = some (.int p.energy : V) := by unfold pasF; repeat (first | exact lk_hit | rw [lk_miss (by decide +kernel)])
theorem lk_World_horizon {u : Str} {h : Int} {t0 t1 t2 t3 : Addr} : List.lookup ("horizon" : Str) (worF u h t0 t1 t2 t3) = some (.int h : V) := by unfold worF; repeat (first | exact lk_hit | rw [lk_miss (by decide +kernel)])
theorem lk_World_satellites {u : Str} {h : Int} {t0 t1 t2 t3 : Addr} : List.lookup ("satellites" : Str) (worF u h t0 t1 t2 t3) = some (.ref t0 : V) := by unfold worF; repeat (first | exact lk_hit | rw [lk_miss (by decide +kernel)])
theorem lk_World_stations {u : Str} {h : Int} {t0 t1 t2 t3 : Addr} : List.lookup ("stations" : Str) (worF u h t0 t1 t2 t3) = some (.ref t1 : V) := by unfold worF; repeat (first | exact lk_hit | rw [lk_miss (by decide +kernel)])
theorem lk_World_recordings {u : Str} {h : Int} {t0 t1 t2 t3 : Addr} : List.lookup ("recordings" : Str) (worF u h t0 t1 t2 t3) = some (.ref t2 : V) := by unfold worF; repeat (first | exact lk_hit | rw [lk_miss (by decide +kernel)])
theorem lk_World_passes {u : Str} {h : Int} {t0 t1 t2 t3 : Addr} : List.lookup ("passes" : Str) (worF u h t0 t1 t2 t3) = some (.ref t3 : V) := by unfold worF; repeat (first | exact lk_hit | rw [lk_miss (by decide +kernel)])
end DP
namespace DP
open PySem PySem.Spec PyProof.Rows L2
/-- the tuple at a, each item in a new pair with its place -/
def IteT (K : PySem.W.Frag) (a : Addr) (k : Int) : It :=
  ⟨fun i H => ∃ (xs : List V) (x : V), SqT K H a xs ∧ xs[i]? = some x,
   fun i H v H' => ∃ T x, v = .ref T ∧ H T = none ∧ H' = upd H T (.tup [.int (k + (i : Nat)), x]) ∧ ∀ xs, SqT K H a xs → xs[i]? = some x,
   fun i H => ∃ xs : List V, SqT K H a xs ∧ xs.length ≤ i⟩
theorem tup_not_iter {h : Heap} {a it : Addr} {its : Array Value} {i : Nat} (l : h.IsTuple a its) (r : h.IsTupleIter it a i) : a ≠ it := fun z => by
  obtain ⟨o, ho, hc, _⟩ := l
  obtain ⟨o', ho', hc', _⟩ := r
  rw [z, ho'] at ho
  cases ho
  rw [hc] at hc'
  exact absurd hc' (by decide)
theorem turn_enumT {P : Program} {w : World} {K : PySem.W.Frag} {elts : List Expr} {kk : Nat} {tpos : Pos} (a en it : Addr) (k : Int) :
    Turn P w K (.Tuple elts kk tpos) (IteT K a k) [en, it] en (fun i h => (∃ old, IsEnum h en it (k + ((i : Nat) : Int)) old) ∧ h.IsTupleIter it a i ∧ en ≠ it) where
  mem := by simp
  obj := fun i h st b hb => by
    obtain ⟨⟨old, hen⟩, ⟨o, ho, hc, hd⟩, _⟩ := st
    have two : b = en ∨ b = it := by simpa using hb
    rcases two with z | z
    · subst z
      exact ⟨_, hen, fun v q => nomatch q⟩
    · subst z
      exact ⟨o, ho, fun v q => by rw [hd] at q; cases q⟩
  keep := fun i h h' st kp => by
    obtain ⟨⟨old, hen⟩, hi, hne⟩ := st
    exact ⟨⟨old, kp en (by simp) _ hen⟩, hi.at fun o q => kp it (by simp) o q, hne⟩
  item := by
    intro X hP hw hK hc i pins s σ H E I hf st hg
    subst hP hw hK
    obtain ⟨⟨old, hen⟩, hit, hne⟩ := st
    obtain ⟨xs, x, hq, hx⟩ := hg
    obtain ⟨its, rv, p0, hz⟩ := I.tuple hq
    have pl : s.heap.IsTuple a its.toArray := p0
    obtain ⟨u, hu, ru⟩ := rv.get hx
    have en_lt : en < s.heap.objs.size := Heap.lt_size hen
    have it_lt : it < s.heap.objs.size := by
      obtain ⟨_, q, _⟩ := hit
      exact Heap.lt_size q
    have nel := tup_not_iter pl hit
    have Dr := Draws.tuple (prog := X.prog) (w := X.w) (A := X.A.in1) (I.ok.hd hc) it a nel its.toArray
    have hi : i < its.toArray.size := by
      have := (List.getElem?_eq_some_iff.mp hu).1
      simpa using this
    by_cases ea : en = a
    · exfalso
      obtain ⟨o, ho, hc', _⟩ := pl
      rw [← ea, hen] at ho
      cases ho
      have e : Value.type "enumerate" = Value.type "tuple" := hc'
      exact absurd e (by decide)
    refine wpAny_pyNext_enum_itemC Dr hen ⟨hit, pl⟩ hi hne (by simp [hne, ea]) fun x' h' tk hP ho hit' hT hsz hk => ?_
    have ex : x' = u := by
      have e1 : its.toArray[i]? = some x' := hP
      have e2 : its.toArray[i]? = some u := by simpa using hu
      exact Option.some.inj (e1.symm.trans e2)
    subst ex
    refine ⟨_, rfl, wpAny_letOwnedTupleGo_enum (s := { s with heap := h', toks := tk + 1 }) ho fun h2 hen2 sb => ?_⟩
    have hT2 : h2.get? s.heap.objs.size = some { cls := .type "tuple", data := .seq #[.int (k + (i : Int)) tk, x'] } :=
      (sb.2 _ (Nat.ne_of_gt en_lt)).trans hT
    have fresh : H s.heap.objs.size = none := I.hok.fresh (Nat.le_refl _)
    have new : ObjOk X.prog X.w (upd H s.heap.objs.size (.tup [.int (k + (i : Nat)), x])) h2 s.heap.objs.size (.tup [.int (k + (i : Nat)), x]) :=
      ⟨(by show 2 ≤ sizeLine; decide), [.int (k + (i : Int)) tk, x'], .cons ⟨_, rfl⟩ (.cons ru .nil), ⟨_, hT2, rfl, _, rfl⟩⟩
    have keepAll : ∀ b ob, b ∉ [en, it] → s.heap.get? b = some ob → h2.get? b = some ob := fun b ob hb q => by
      have n1 : b ≠ en := fun z => hb (by simp [z])
      have n2 : b ≠ it := fun z => hb (by simp [z])
      exact (sb.2 b n1).trans (hk b ob n1 n2 q)
    have I1 := I.turnedNew (t' := tk + 1) (ch := [en, it]) keepAll hf (Nat.le_refl _) new
    refine ⟨.ref s.heap.objs.size, _, I1, rfl, ⟨_, x, rfl, fresh, rfl, fun ys hy => ?_⟩, ⟨⟨x', ?_⟩, ?_, hne⟩, fun b hb => ?_⟩
    · rw [I.tuple_inj hy hq]
      exact hx
    · have e1 : k + ((i + 1 : Nat) : Int) = k + (i : Int) + 1 := by omega
      rw [e1]
      exact hen2
    · exact hit'.1.at fun o q => (sb.2 it (Ne.symm hne)).trans q
    · have hb' : b < s.heap.objs.size := by
        have two : b = en ∨ b = it := by simpa using hb
        rcases two with z | z
        · rw [z]; exact en_lt
        · rw [z]; exact it_lt
      rw [upd_ne (Nat.ne_of_lt hb')]
      exact (hf b hb).1
  done := by
    intro X hP hw hK hc i pins s σ H E I hf st hg
    subst hP hw hK
    obtain ⟨⟨old, hen⟩, hit, hne⟩ := st
    obtain ⟨xs, hq, hx⟩ := hg
    obtain ⟨its, rv, p0, hz⟩ := I.tuple hq
    have pl : s.heap.IsTuple a its.toArray := p0
    have hl := rv.length
    obtain ⟨f0, f1, f2, f3, f4, f5⟩ := hf it (by simp)
    have hT : s.TypeIs (.ref en) "enumerate" := ⟨_, hen, rfl⟩
    unfold pyNext
    refine wpAny_bind (wpAny_attempt (wpAny_callSpecial?_slot (name := Str.ofString "__next__") hT F.slot_enumerate_next
      (wpAny_call_entry F.slot_enumerate_next hT F.entry_enumerate_next ?_
        (F.args_enumerate_next_1 _))))
    show wpAny _ _ (field (.ref en) 2 >>= _) _ _ _
    refine wpAny_bind (wpAny_field hen rfl (x := .ref it) rfl ?_)
    refine wpAny_bind (wpAny_nextOf_tuple_end (I.ok.hd hc) hit pl (by simp; omega) fun h' e eb hcl => ?_)
    obtain ⟨o, ho, hcs⟩ := hcl
    refine wpAny_bind (wpAny_isInstance (T := "StopIteration") (b := true) ⟨o, ho, hcs⟩ isSubtype_stop ?_)
    exact wpAny_pure ⟨rfl, I.turned (t' := s.toks) (fun b o hb q => eb b o hb q) f0 f1 f3 f4 f5⟩
  self := fun A i s Q E st h => let ⟨⟨_, hen⟩, _⟩ := st; wpAny_pyIter_enum hen h
theorem meets_enum1 {v : Value} {o : Obj} {H : Heap → Prop} (B : Begins v o H) :
    Meets (Builtin.«enumerate.__new__» ⟨[.type "enumerate", v], []⟩) (fun _ R s => H s.heap ∧
      R (.ok (.ret (.ref (s.heap.push o).objs.size))) { s with heap := (s.heap.push o).push { cls := .type "enumerate", data := .fields #[.none, .bool false, .ref s.heap.objs.size, rawInt 0, .none, .none] } }) :=
  .of_wp fun prog w A R s h => by
    obtain ⟨hp, g, d, tk, os⟩ := s
    obtain ⟨h1, h⟩ := h
    have hsub := sub_enumerate
    have q1 : ∀ {A' : Around} {E : Value → Shared → Prop} {Q : Value → Shared → Prop}, Q (.ref hp.objs.size) ⟨hp.push o, g, d, tk, os⟩ → wpAny (model prog w) A' (pyIter v) Q E ⟨hp, g, d, tk, os⟩ :=
      fun q => B.iter prog w _ _ ⟨hp, g, d, tk, os⟩ _ h1 q
    wp_walk using q1
    refine wpAny_stack_any fun st => wpAny_pure ?_
    split
    · rename_i c _ _ _ _ _
      cases (c == Value.type "enumerate")
      · wp_walk using q1
        exact ⟨_, rfl, h⟩
      · wp_walk using q1
        exact ⟨_, rfl, h⟩
    · wp_walk using q1
      exact ⟨_, rfl, h⟩
theorem enum_begins1 {prog : Program} {w : World} {A : Around} {E : Value → Shared → Prop} {s : Shared} {v : Value} {o : Obj} {H : Heap → Prop} {Q : Value → Shared → Prop} (B : Begins v o H) (h1 : H s.heap)
    (h : ∀ h', IsEnum h' (s.heap.objs.size + 1) s.heap.objs.size 0 .none → h'.get? s.heap.objs.size = some o → (∀ b o, s.heap.get? b = some o → h'.get? b = some o) → Q (.ref (s.heap.objs.size + 1)) { s with heap := h' }) :
    wpAny (model prog w) A (call (.type "enumerate") [v]) Q E s := by
  refine callType_new F.called_enumerate (by decide) (F.typeCall_enumerate_1 _) (F.newCall_enumerate_1 _) (fun obj => F.args_object_init_2 obj _) F.entry_enumerate_new (meets_enum1 B) ⟨h1, ?_⟩
  have hz : (s.heap.push o).objs.size = s.heap.objs.size + 1 := Heap.size_push ..
  show _ ∧ _
  rw [hz]
  have hen : IsEnum ((s.heap.push o).push { cls := .type "enumerate", data := .fields #[.none, .bool false, .ref s.heap.objs.size, rawInt 0, .none, .none] }) (s.heap.objs.size + 1) s.heap.objs.size 0 .none := by
    have z := Heap.get?_push_size (s.heap.push o) (o := { cls := .type "enumerate", data := .fields #[.none, .bool false, .ref s.heap.objs.size, rawInt 0, .none, .none] }) rfl
    rw [hz] at z
    exact z
  exact ⟨⟨_, hen, rfl⟩, h _ hen (Heap.get?_push_of_some _ (Heap.get?_push_size _ B.free)) fun b o x => Heap.get?_push_of_some _ (Heap.get?_push_of_some _ x)⟩
def iEnumT (K : PySem.W.Frag) (ta : TA) : TI := fun σ H R => ta σ H fun vs H1 => ∃ a xs, vs = [.ref a] ∧ SqT K H1 a xs ∧ R (IteT K a 0) H1
theorem pi_enumT {X : Cx} {e : Expr} {ta : TA} {p pos tpos : Pos} {elts : List Expr} {kk : Nat} (hg : Gl X "enumerate") (hm : X.mg "enumerate" = none) (ha : PA X [e] ta) (hs : starEach [e] X.env = [(false, eval e X.env)] := by rfl) :
    PI X (.Tuple elts kk tpos) (.Call (.Name "enumerate" p) [e] [] pos) (iEnumT X.K ta) := by
  refine ⟨fun pins s σ H R I h => ?_⟩
  refine Call_ (ld_blt I hg hm boot_enumerate (PyProof.Rows.callWith_type1 (thn (ha.run pos pins s σ H _ I h) fun us s1 ⟨vs, H1, I1, r1, q1⟩ => ?_) hs rfl))
  obtain ⟨a, xs, ex, hq, q⟩ := q1
  subst ex
  obtain ⟨u, eu, ru⟩ := vals1 r1
  subst eu
  cases ru
  obtain ⟨its, rv, p0, hz⟩ := I1.tuple hq
  have pl : s1.heap.IsTuple a its.toArray := p0
  refine enum_begins1 (begins_tuple a its.toArray) pl fun h' hen hit hkp => wpAny_pyIter_enum hen ?_
  have I3 : Inv X pins σ H1 { s1 with heap := h' } := I1.kept (t' := s1.toks) hkp
  refine ⟨s1.heap.objs.size + 1, [s1.heap.objs.size + 1, s1.heap.objs.size], _, _, H1, rfl, I3, turn_enumT a (s1.heap.objs.size + 1) s1.heap.objs.size 0,
    ⟨⟨.none, ?_⟩, ⟨_, hit, rfl, rfl⟩, Nat.succ_ne_self _⟩, fun b hb => ?_, q⟩
  · show IsEnum h' _ _ (0 + 0) _
    rw [Int.add_zero]
    exact hen
  · have two : b = s1.heap.objs.size + 1 ∨ b = s1.heap.objs.size := by simpa using hb
    have hle : s1.heap.objs.size ≤ b := by
      rcases two with z | z
      · rw [z]; exact Nat.le_add_right _ 1
      · rw [z]; exact Nat.le_refl _
    exact I1.fpOk hle (I1.hok.fresh hle)
theorem walk_enumT {K : PySem.W.Frag} {a : Addr} {k : Int} {xs : List V} :
    Walk (IteT K a k) xs.length (fun H => SqT K H a xs) (fun i H v H' => ∃ T x, v = .ref T ∧ H T = none ∧ H' = upd H T (.tup [.int (k + (i : Nat)), x]) ∧ xs[i]? = some x) :=
  ⟨fun i H hi q => ⟨xs, xs[i], q, List.getElem?_eq_getElem hi⟩, fun H q => ⟨xs, q, Nat.le_refl _⟩, fun i H v H' hi q ⟨T, x, e1, e2, e3, e4⟩ => ⟨T, x, e1, e2, e3, e4 xs q⟩⟩
end DP
namespace DP
open PySem PySem.Spec PyProof.Rows L2
def okP (r : RecD) (s : Int) (p : PasD) : Bool := decide ((p.sat : Int) = (r.sat : Int)) && (decide (s + r.length ≤ p.first) && decide (p.fin ≤ r.deadline))
def optAt (P : List PasD) (r : RecD) (s : Int) (k : Nat) : List (Int × Int) := match P[k]? with
  | some p => if okP r s p = true then [(s, (k : Int))] else []
  | none => []
def optS (P : List PasD) (r : RecD) (s : Int) (j : Nat) : List (Int × Int) := (List.range j).flatMap (optAt P r s)
def optR (P : List PasD) (r : RecD) (i : Nat) : List (Int × Int) := (List.range i).flatMap fun (t : Nat) => optS P r (r.earliest + (t : Int)) P.length
def optsW (W : WorldD) (r : RecD) : List (Int × Int) := optR W.pass r (r.latest + 1 - r.earliest).toNat
theorem optS_succ (P : List PasD) (r : RecD) (s : Int) (j : Nat) : optS P r s (j + 1) = optS P r s j ++ optAt P r s j := by
  unfold optS
  rw [List.range_succ, List.flatMap_append, List.flatMap_cons, List.flatMap_nil, List.append_nil]
theorem optR_succ (P : List PasD) (r : RecD) (i : Nat) : optR P r (i + 1) = optR P r i ++ optS P r (r.earliest + (i : Int)) P.length := by
  unfold optR
  rw [List.range_succ, List.flatMap_append, List.flatMap_cons, List.flatMap_nil, List.append_nil]
theorem optAt_len (P : List PasD) (r : RecD) (s : Int) (k : Nat) : (optAt P r s k).length ≤ 1 := by
  unfold optAt
  split
  · split <;> simp
  · exact Nat.zero_le _
theorem optS_len (P : List PasD) (r : RecD) (s : Int) : ∀ j, (optS P r s j).length ≤ j
  | 0 => Nat.zero_le _
  | j + 1 => by
    rw [optS_succ, List.length_append]
    have h1 := optS_len P r s j
    have h2 := optAt_len P r s j
    omega
theorem optR_len (P : List PasD) (r : RecD) : ∀ i, (optR P r i).length ≤ i * P.length
  | 0 => by show 0 ≤ _; exact Nat.zero_le _
  | i + 1 => by
    rw [optR_succ, List.length_append, Nat.succ_mul]
    have h1 := optR_len P r i
    have h2 := optS_len P r (r.earliest + (i : Int)) P.length
    omega
theorem optAt_some {P : List PasD} {r : RecD} {s : Int} {k : Nat} {p : PasD} (h : P[k]? = some p) : optAt P r s k = if okP r s p = true then [(s, (k : Int))] else [] := by
  unfold optAt
  rw [h]
theorem room_opts {W : WorldD} {z : RecD} (ok : RecOk W z) (n : W.pass.length ≤ 10) {i : Nat} (hi : i ≤ (z.latest + 1 - z.earliest).toNat) {j : Nat} (s : Int) : (optR W.pass z i ++ optS W.pass z s j).length ≤ 210 + j := by
  rw [List.length_append]
  have h1 := optR_len W.pass z i
  have h2 := optS_len W.pass z s j
  have h3 := ok.latest
  have h4 : i ≤ 21 := by omega
  have h5 : i * W.pass.length ≤ 21 * 10 := Nat.mul_le_mul h4 n
  omega
theorem optsW_len {W : WorldD} (wok : WorldOk W) {z : RecD} (ok : RecOk W z) : (optsW W z).length ≤ 210 := by
  have h := room_opts ok wok.nPass (Nat.le_refl _) (j := 0) 0
  rw [List.length_append] at h
  show (optR _ _ _).length ≤ _
  omega
end DP
namespace DP
open PySem PySem.Spec PyProof.Rows L2
abbrev s__law_options : Stmt := topS 79
theorem sc__law_options : FnScope ["world", "number", "name", "satellite", "numbers", "urgency", "found", "start", "p", "chance"] ["world", "number"] (defScope s__law_options) := ⟨rfl, rfl, rfl, by decide +kernel, rfl, by decide +kernel, by decide +kernel⟩
section
variable {P : Program} {w : World} {K : PySem.W.Frag} {mg : Str → Option Value} {base : Heap} {CL CS CT CR CP CW aS aR fS fT fR fP : Addr}
def spLawOptions (K : PySem.W.Frag) : Sp := fun vs H Q _ => ∃ (wd : Addr) (W : WorldD) (i : Nat) (z : RecD), vs = [.ref wd, .int (i : Int)] ∧ WorldOk W ∧ WdAt K H wd W ∧ W.recs[i]? = some z ∧
  ∀ l xs H', Same H H' → H l = none → H' l = some (.lst xs) → Spans K H' xs (optsW W z) → Q (.ref l) H'
set_option maxHeartbeats 8000000 in
theorem d_law_options (B : Bt mg) (A : At K mg "_law_options" s__law_options ["world", "number"]) : DefOk P w K mg base CX0 1 "_law_options" ["world", "number"] (spLawOptions K) := by
  refine A.ok sc__law_options (fun vs H Q E h => ?_) (fun f cdv A outer s H vs Q E hr h => ?_)
  · obtain ⟨wd, W, i, z, rfl, _⟩ := h
    rfl
  obtain ⟨wd, W, i, z, rfl, wok, hwd, hz, q⟩ := h
  obtain ⟨a, b, c, d, xa, xb, xc, xd, g, a1, a2, b1, b2, c1, c2, d1, d2⟩ := hwd.ex
  have ok := wok.recs z (List.mem_of_getElem? hz)
  have nP := wok.nPass
  have k1 := ok.earliest
  have k2 := ok.latest
  have k3 := wok.horizon
  have m3 := dpAll_len d2
  rw [List.length_map] at m3
  obtain ⟨v, ev, dv⟩ := dpAll_get2 c2 hz
  obtain ⟨t, t1, t2, rfl, u1, u2, u3⟩ := rec_open dv
  refine ⟨_, pss_cons (ps_asg (pe_ix ix_list (pe_dget (hu_of hr) (pv 0) pe_str (fun _ _ => rfl)) (pv 1) (fun _ _ => rfl)) (pg_tup (by rfl) (pgs_cons (pg_name (i := 2) sc__law_options.nd rfl (Or.inl rfl)) (pgs_cons (pg_name (i := 3) sc__law_options.nd rfl (Or.inl rfl)) (pgs_cons (pg_name (i := 4) sc__law_options.nd rfl (Or.inl rfl)) (pgs_cons (pg_name (i := 5) sc__law_options.nd rfl (Or.inl rfl)) (pgs_nil)))))))
  (pss_cons (ps_set (i := 6) sc__law_options.nd rfl (Or.inl rfl) (pe_lst pa_nil))
  (pss_cons (ps_for PassesOwn.never rfl (pi_range2 (by rfl) B.range (pa_cons (pe_ix ix_tup (pv 4) pe_int (fun _ _ => rfl)) (pa_cons (pe_op op_add (pe_ix ix_tup (pv 4) pe_int (fun _ _ => rfl)) pe_int) pa_nil))) (pg_name (i := 7) sc__law_options.nd rfl (Or.inl rfl))
      (pss_one (ps_for PassesOwn.never rfl (pi_range1 (by rfl) B.range (pa_cons (pe_callB (call_len_seq) (by rfl) B.len (by decide +kernel) (pa_cons (pe_dget (hu_of hr) (pv 0) pe_str (fun _ _ => rfl)) pa_nil)) pa_nil)) (pg_name (i := 8) sc__law_options.nd rfl (Or.inl rfl))
          (pss_cons (ps_set (i := 9) sc__law_options.nd rfl (Or.inl rfl) (pe_ix ix_list (pe_dget (hu_of hr) (pv 0) pe_str (fun _ _ => rfl)) (pv 8) (fun _ _ => rfl)))
          (pss_one (ps_if (PW.pt (pw_and (pt_cmpR op_eq (pe_ix ix_tup (pv 9) pe_int (fun _ _ => rfl)) (pv 3) (nomark _)) (pw_and (pt_cmpR op_le (pe_op op_add (pv 7) (pe_ix ix_tup (pv 4) pe_int (fun _ _ => rfl))) (pe_ix ix_tup (pe_ix ix_tup (pv 9) pe_int (fun _ _ => rfl)) pe_int (fun _ _ => rfl)) (nomark _)) (pw_and1 (pt_cmpR op_le (pe_ix ix_tup (pe_ix ix_tup (pv 9) pe_int (fun _ _ => rfl)) pe_int (fun _ _ => rfl)) (pe_ix ix_tup (pv 5) pe_int (fun _ _ => rfl)) (nomark _))))))
              (pss_one (ps_expr (pe_bm PySem.F.plainAttrs_list PySem.F.slot_list_append PySem.F.type_list_append mt_append (pv 6) (pa_cons (pe_tup (pa_cons (pv 7) (pa_cons (pv 8) pa_nil))) pa_nil))))
              (pss_nil)))))))
  (pss_one (ps_ret (pv 6)))))
    , ?_⟩
  refine ⟨_, rfl, wd, _, rfl, get_r g, _, rfl, c, xc, (i : Int), _, rfl, rfl, SqL.of c1, atI_nat ev, t, _, rfl, u1, rfl, _, _, rfl, _, _, rfl, _, _, rfl, _, _, rfl, rfl, ?_⟩
  refine ⟨Nat.zero_le _, fun D hD => ?_⟩
  have sD := same_new hD (.lst [])
  refine ⟨_, rfl, t1, _, 0, _, rfl, rfl, Same.tup sD u2, rfl, _, rfl, t1, _, 1, _, rfl, rfl, Same.tup sD u2, rfl, _, _, rfl, rfl, z.earliest, z.latest + 1, rfl, ⟨by omega, by omega, by omega, by omega⟩, ?_⟩
  refine for_range (lo := z.earliest) (n := (z.latest + 1 - z.earliest).toNat) (fun j σ H' => ∃ (xs : List V) (y7 y8 y9 : Option V), σ = [some (.ref wd), some (.int (i : Int)), some (.str z.name), some (.int (z.sat : Int)), some (.ref t1), some (.ref t2), some (.ref D), y7, y8, y9] ∧ H' D = some (.lst xs) ∧ Spans K H' xs (optR W.pass z j) ∧ Same H H')
    ⟨[], none, none, none, rfl, upd_same, (show Spans K _ [] [] from .nil), sD⟩ (fun j σ H1 hj hI => ?_) (fun σ H1 hI => ?_)
  · obtain ⟨xs, y7, y8, y9, rfl, hDD, hsp, hs⟩ := hI
    refine ⟨_, rfl, wd, _, rfl, get_p (hs _ _ g), d, xd, rfl, .inl (SqL.of (hs _ _ d1)), _, rfl, by omega, by omega, ?_⟩
    refine for_range (lo := 0) (n := (xd.length : Int).toNat) (fun k σ H' => ∃ (xs : List V) (y8 y9 : Option V), σ = [some (.ref wd), some (.int (i : Int)), some (.str z.name), some (.int (z.sat : Int)), some (.ref t1), some (.ref t2), some (.ref D), some (.int (z.earliest + (j : Int))), y8, y9] ∧ H' D = some (.lst xs) ∧
      Spans K H' xs (optR W.pass z j ++ optS W.pass z (z.earliest + (j : Int)) k) ∧ Same H H') ⟨xs, _, _, rfl, hDD, by show Spans K H1 xs (optR W.pass z j ++ []); rw [List.append_nil]; exact hsp, hs⟩ (fun k σ H2 hk hI => ?_) (fun σ H2 hI => ?_)
    · obtain ⟨xs, y8, y9, rfl, hDD, hsp, hs⟩ := hI
      have hk' : k < W.pass.length := by omega
      have hc : W.pass[k]? = some W.pass[k] := List.getElem?_eq_getElem hk'
      obtain ⟨p, ep⟩ : ∃ p, W.pass[k] = p := ⟨_, rfl⟩
      rw [ep] at hc
      obtain ⟨v, ev2, dv2⟩ := dpAll_get2 d2 hc
      obtain ⟨tc, tc1, tc2, rfl, w1, w2, w3⟩ := pas_open dv2
      have hll := paired_len hsp
      have hrm := room_opts ok nP (Nat.le_of_lt hj) (j := k) (z.earliest + (j : Int))
      have kl : k ≤ 10 := by omega
      have ea := optAt_some (r := z) (s := z.earliest + (j : Int)) hc
      have w1 := Same.tup hs w1
      have w2 := Same.tup hs w2
      have u2 := Same.tup hs u2
      have u3 := Same.tup hs u3
      have no : okP z (z.earliest + (j : Int)) p = false → Spans K H2 xs (optR W.pass z j ++ optS W.pass z (z.earliest + (j : Int)) (k + 1)) := fun e => by
        rw [optS_succ, ea, e, if_neg Bool.false_ne_true, List.append_nil]
        exact hsp
      refine ⟨_, rfl, wd, _, rfl, get_p (hs _ _ g), _, rfl, d, xd, (k : Int), _, rfl, by rw [Int.zero_add], SqL.of (hs _ _ d1), atI_nat ev2, ?_⟩
      refine ⟨_, rfl, tc, _, 1, _, rfl, rfl, w1, rfl, _, rfl, rfl, _, rfl, ite2 (fun e1 => ?_) (fun e1 => iteF ?_)⟩
      · refine ⟨_, rfl, _, rfl, t1, _, 2, _, rfl, rfl, u2, rfl, _, _, rfl, rfl, _, rfl, tc, _, 3, _, rfl, rfl, w1, rfl, tc1, _, 0, _, rfl, rfl, w2, rfl, _, _, rfl, rfl, _, rfl, ite2 (fun e2 => ?_) (fun e2 => iteF ?_)⟩
        · refine ⟨_, rfl, tc, _, 3, _, rfl, rfl, w1, rfl, tc1, _, 1, _, rfl, rfl, w2, rfl, _, rfl, t2, _, 2, _, rfl, rfl, u3, rfl, _, _, rfl, rfl, _, rfl, ite2 (fun e3 => ?_) (fun e3 => ?_)⟩
          · refine ⟨_, rfl, .inl ⟨rfl, _, SqL.of hDD⟩, _, rfl, _, rfl, sz2_, fun tn htn => ?_⟩
            have sB := same_new htn (.tup [.int (z.earliest + (j : Int)), .int (0 + (k : Nat))])
            refine ⟨D, xs, .ref tn, rfl, rfl, sB _ _ hDD, by rw [hll]; exact small1000 (by omega), ?_⟩
            have yes : okP z (z.earliest + (j : Int)) p = true := by
              unfold okP
              rw [show decide ((p.sat : Int) = (z.sat : Int)) = true from decide_eq_true (V.int.inj (of_decide_eq_true e1)), show decide (z.earliest + (j : Int) + z.length ≤ p.first) = true from e2, show decide (p.fin ≤ z.deadline) = true from e3]
              rfl
            refine ⟨xs ++ [.ref tn], _, _, rfl, upd_same, ?_, same_at hD (hs.trans sB) _⟩
            rw [optS_succ, ea, yes, if_pos rfl, ← List.append_assoc]
            exact Spans.upd (paired_snoc (hsp.same sB) ⟨tn, rfl, SqT.of (by rw [upd_same, Int.zero_add])⟩) (sB _ _ hDD)
          · refine ⟨xs, _, _, rfl, hDD, no ?_, hs⟩
            unfold okP
            rw [show decide (p.fin ≤ z.deadline) = false from Bool.eq_false_iff.mpr e3, Bool.and_false, Bool.and_false]
        · refine ⟨xs, _, _, rfl, hDD, no ?_, hs⟩
          unfold okP
          rw [show decide (z.earliest + (j : Int) + z.length ≤ p.first) = false from Bool.eq_false_iff.mpr e2, Bool.false_and, Bool.and_false]
      · refine ⟨xs, _, _, rfl, hDD, no ?_, hs⟩
        unfold okP
        rw [show decide ((p.sat : Int) = (z.sat : Int)) = false from decide_eq_false fun q => e1 (decide_eq_true (by rw [q])), Bool.false_and]
    · obtain ⟨xs, y8, y9, rfl, hDD, hsp, hs⟩ := hI
      rw [show (xd.length : Int).toNat = W.pass.length by omega, ← optR_succ] at hsp
      exact ⟨xs, _, _, _, rfl, hDD, hsp, hs⟩
  · obtain ⟨xs, y7, y8, y9, rfl, hDD, hsp, hs⟩ := hI
    exact ⟨_, rfl, q D xs _ hs hD hDD hsp⟩
end
end DP
namespace DP
open PySem PySem.Spec PyProof.Rows L2
abbrev s__law_case : Stmt := topS 80
theorem sc__law_case : FnScope ["script", "first", "world", "open_too", "stream", "made", "r", "listed", "kind", "entry", "taken", "p"] ["script", "first", "world", "open_too"] (defScope s__law_case) := ⟨rfl, rfl, rfl, by decide +kernel, rfl, by decide +kernel, by decide +kernel⟩
inductive EntM where
  | non : EntM
  | opn : EntM
  | at_ (s p : Int) : EntM
inductive EntT where
  | non : EntT
  | opn : EntT
  | ant (n : Int) : EntT
def entM : EntM → PyData
  | .non => .none
  | .opn => .str "open"
  | .at_ s p => .tuple [.int s, .int p]
def entT : EntT → PyData
  | .non => .none
  | .opn => .str "open"
  | .ant n => .int n
theorem noL_entM (e : EntM) : noL (entM e) := by cases e <;> simp [entM, noL, noLs]
theorem noL_entT (e : EntT) : noL (entT e) := by cases e <;> simp [entT, noL]
structure CaseD where
  made : List EntM
  taken : List EntT
def casePy (c : CaseD) : PyData := .tuple [.tuple (c.made.map entM), .tuple (c.taken.map entT)]
/-- what an entry of a drawn case can be -/
def MOk (W : WorldD) (o : Bool) : EntM → Prop
  | .non => True
  | .opn => o = true
  | .at_ s p => 0 ≤ s ∧ s ≤ W.horizon ∧ 0 ≤ p ∧ p < (W.pass.length : Int)
def TOk (o : Bool) : EntT → Prop
  | .non => True
  | .opn => o = true
  | .ant n => 0 ≤ n ∧ n ≤ 5
structure CaseG (W : WorldD) (o : Bool) (c : CaseD) : Prop where
  nM : c.made.length = W.recs.length
  nT : c.taken.length = W.pass.length
  mOk : ∀ e ∈ c.made, MOk W o e
  tOk : ∀ e ∈ c.taken, TOk o e
theorem optsW_mem {W : WorldD} {z : RecD} (ok : RecOk W z) {q : Int × Int} (h : q ∈ optsW W z) : 0 ≤ q.1 ∧ q.1 ≤ W.horizon ∧ 0 ≤ q.2 ∧ q.2 < (W.pass.length : Int) := by
  unfold optsW optR at h
  obtain ⟨i, hi, h⟩ := List.mem_flatMap.mp h
  unfold optS at h
  obtain ⟨k, hk, h⟩ := List.mem_flatMap.mp h
  rw [List.mem_range] at hi hk
  unfold optAt at h
  have h1 := ok.earliest
  have h2 := ok.latest
  split at h
  · split at h
    · have e := List.mem_singleton.mp h
      rw [e]
      dsimp only
      omega
    · exact absurd h List.not_mem_nil
  · exact absurd h List.not_mem_nil
section
variable {P : Program} {w : World} {K : PySem.W.Frag} {mg : Str → Option Value} {base : Heap}
theorem dp_at {H : Hp} {v : V} {s p : Int} (h : SpanV K H v (s, p)) : Dp K H v (entM (.at_ s p)) := by
  obtain ⟨t, rfl, ht⟩ := h
  exact .tup ht (.cons (.int _) (.cons (.int _) .nil))
def spCase (K : PySem.W.Frag) : Sp := fun vs H Q _ => ∃ (a : Addr) (ns : List Int) (first : Int) (wd : Addr) (W : WorldD) (o : Bool), vs = [.ref a, .int first, .ref wd, .bl o] ∧ SqL K H a (ns.map V.int) ∧ 0 ≤ first ∧ WG W ∧ WdAt K H wd W ∧
  ∀ v H' c, Same H H' → CaseG W o c → Dp K H' v (casePy c) → Q v H'
set_option maxHeartbeats 8000000 in
theorem d_case (B : Bt mg) (D_law_stream : DefOk P w K mg base CX0 2 "_law_stream" ["script", "first", "count"] (spStream K)) (D_law_next : DefOk P w K mg base CX0 1 "_law_next" ["stream", "many"] spNext)
    (D_law_options : DefOk P w K mg base CX0 1 "_law_options" ["world", "number"] (spLawOptions K)) (A : At K mg "_law_case" s__law_case ["script", "first", "world", "open_too"]) : DefOk P w K mg base CX0 3 "_law_case" ["script", "first", "world", "open_too"] (spCase K) := by
  refine A.ok sc__law_case (fun vs H Q E h => ?_) (fun f cdv A outer s H vs Q E hr h => ?_)
  · obtain ⟨a, ns, first, wd, W, o, rfl, _⟩ := h
    rfl
  obtain ⟨a, ns, first, wd, W, o, rfl, hS, hf0, wg, hwd, q⟩ := h
  refine ⟨_, pss_cons (ps_set (i := 4) sc__law_case.nd rfl (Or.inl rfl) (pe_f D_law_stream (hr.mono (by omega)) pass0 (pa_cons (pv 0) (pa_cons (pv 1) (pa_cons pe_int pa_nil)))))
  (pss_cons (ps_set (i := 5) sc__law_case.nd rfl (Or.inl rfl) (pe_lst pa_nil))
  (pss_cons (ps_for PassesOwn.never rfl (pi_range1 (by rfl) B.range (pa_cons (pe_callB (call_len_seq) (by rfl) B.len (by decide +kernel) (pa_cons (pe_dget (hu_of hr) (pv 2) pe_str (fun _ _ => rfl)) pa_nil)) pa_nil)) (pg_name (i := 6) sc__law_case.nd rfl (Or.inl rfl))
      (pss_cons (ps_set (i := 7) sc__law_case.nd rfl (Or.inl rfl) (pe_f D_law_options (hr.mono (by omega)) pass0 (pa_cons (pv 2) (pa_cons (pv 6) pa_nil))))
      (pss_cons (ps_set (i := 8) sc__law_case.nd rfl (Or.inl rfl) (pe_f D_law_next (hr.mono (by omega)) pass0 (pa_cons (pv 4) (pa_cons pe_int pa_nil))))
      (pss_cons (ps_set (i := 9) sc__law_case.nd rfl (Or.inl rfl) pe_non)
      (C8.pss_cut (ps_if (PW.pt (pw_and (pt_cmpR op_gt (pv 8) pe_int (nomark _)) (pw_and1 (pt_truth (pv 7) (by intro _; rfl)))))
          (pss_one (ps_set (i := 9) sc__law_case.nd rfl (Or.inl rfl) (pe_ix ix_list (pv 7) (pe_op op_mod (pe_f D_law_next (hr.mono (by omega)) pass0 (pa_cons (pv 4) (pa_cons pe_int pa_nil))) (pe_callB (call_len_seq) (by rfl) B.len (by decide +kernel) (pa_cons (pv 7) pa_nil))) (fun _ _ => rfl))))
          (pss_one (ps_if (PW.pt (pw_and (pt_cmpR op_eq (pv 8) pe_int (nomark _)) (pw_and1 (pt_truth (pe_dget (hu_of hr) (pv 2) pe_str (fun _ _ => rfl)) (by intro _; rfl)))))
              (pss_one (ps_set (i := 9) sc__law_case.nd rfl (Or.inl rfl) (pe_tup (pa_cons (pe_op op_mod (pe_f D_law_next (hr.mono (by omega)) pass0 (pa_cons (pv 4) (pa_cons pe_int pa_nil))) (pe_op op_add (pe_dget (hu_of hr) (pv 2) pe_str (fun _ _ => rfl)) pe_int)) (pa_cons (pe_f D_law_next (hr.mono (by omega)) pass0 (pa_cons (pv 4) (pa_cons (pe_callB (call_len_seq) (by rfl) B.len (by decide +kernel) (pa_cons (pe_dget (hu_of hr) (pv 2) pe_str (fun _ _ => rfl)) pa_nil)) pa_nil))) pa_nil)))))
              (pss_nil))))
      (C8.pss_cut (ps_if (PW.pt (pw_and (pt_val (pv 3)) (pw_and1 (pt_cmpR op_eq (pe_f D_law_next (hr.mono (by omega)) pass0 (pa_cons (pv 4) (pa_cons pe_int pa_nil))) pe_int (nomark _)))))
          (pss_one (ps_set (i := 9) sc__law_case.nd rfl (Or.inl rfl) pe_str))
          (pss_nil))
      (pss_one (ps_expr (pe_bm PySem.F.plainAttrs_list PySem.F.slot_list_append PySem.F.type_list_append mt_append (pv 5) (pa_cons (pv 9) pa_nil))))))))))
  (pss_cons (ps_set (i := 10) sc__law_case.nd rfl (Or.inl rfl) (pe_lst pa_nil))
  (pss_cons (ps_for PassesOwn.never rfl (pi_range1 (by rfl) B.range (pa_cons (pe_callB (call_len_seq) (by rfl) B.len (by decide +kernel) (pa_cons (pe_dget (hu_of hr) (pv 2) pe_str (fun _ _ => rfl)) pa_nil)) pa_nil)) (pg_name (i := 11) sc__law_case.nd rfl (Or.inl rfl))
      (pss_cons (ps_set (i := 8) sc__law_case.nd rfl (Or.inl rfl) (pe_f D_law_next (hr.mono (by omega)) pass0 (pa_cons (pv 4) (pa_cons pe_int pa_nil))))
      (pss_cons (ps_set (i := 9) sc__law_case.nd rfl (Or.inl rfl) pe_non)
      (C8.pss_cut (ps_if (pt_cmpR op_gt (pv 8) pe_int (nomark _))
          (pss_one (ps_set (i := 9) sc__law_case.nd rfl (Or.inl rfl) (pe_f D_law_next (hr.mono (by omega)) pass0 (pa_cons (pv 4) (pa_cons (pe_ix ix_tup (pe_ix ix_list (pe_dget (hu_of hr) (pv 2) pe_str (fun _ _ => rfl)) (pe_ix ix_tup (pe_ix ix_list (pe_dget (hu_of hr) (pv 2) pe_str (fun _ _ => rfl)) (pv 11) (fun _ _ => rfl)) pe_int (fun _ _ => rfl)) (fun _ _ => rfl)) pe_int (fun _ _ => rfl)) pa_nil)))))
          (pss_nil))
      (C8.pss_cut (ps_if (PW.pt (pw_and (pt_cmpR op_eq (pv 8) pe_int (nomark _)) (pw_and1 (pt_cmpR op_eq (pe_f D_law_next (hr.mono (by omega)) pass0 (pa_cons (pv 4) (pa_cons pe_int pa_nil))) pe_int (nomark _)))))
          (pss_one (ps_set (i := 9) sc__law_case.nd rfl (Or.inl rfl) (pe_op op_add pe_int (pe_f D_law_next (hr.mono (by omega)) pass0 (pa_cons (pv 4) (pa_cons pe_int pa_nil))))))
          (pss_nil))
      (C8.pss_cut (ps_if (PW.pt (pw_and (pt_val (pv 3)) (pw_and1 (pt_cmpR op_eq (pe_f D_law_next (hr.mono (by omega)) pass0 (pa_cons (pv 4) (pa_cons pe_int pa_nil))) pe_int (nomark _)))))
          (pss_one (ps_set (i := 9) sc__law_case.nd rfl (Or.inl rfl) pe_str))
          (pss_nil))
      (pss_one (ps_expr (pe_bm PySem.F.plainAttrs_list PySem.F.slot_list_append PySem.F.type_list_append mt_append (pv 10) (pa_cons (pv 9) pa_nil))))))))))
  (pss_one (ps_ret (pe_tup (pa_cons (pe_callTy (call_tuple_of) (by rfl) B.tuple (by decide +kernel) (pa_cons (pv 5) pa_nil)) (pa_cons (pe_callTy (call_tuple_of) (by rfl) B.tuple (by decide +kernel) (pa_cons (pv 10) pa_nil)) pa_nil)))))))))
    , ?_⟩
  refine ⟨_, rfl, _, rfl, a, ns, first, 4, rfl, hS, by omega, by decide, by decide, fun st H1 s1 _ hst => ?_⟩
  have hwd1 := hwd.same s1
  obtain ⟨wa, wb, wc, we, xa, xb, xc, xd, g, a1, a2, b1, b2, c1, c2, d1, d2⟩ := hwd1.ex
  have m2 := dpAll_len c2
  have m3 := dpAll_len d2
  rw [List.length_map] at m2 m3
  have nR := wg.ok.nRecs
  have nP := wg.ok.nPass
  have hz := wg.ok.horizon
  refine ⟨Nat.zero_le _, fun D hD => ?_⟩
  have sD := same_new hD (.lst [])
  refine ⟨_, rfl, wd, _, rfl, get_r (sD _ _ g), wc, xc, rfl, .inl (SqL.of (sD _ _ c1)), _, rfl, by omega, by omega, ?_⟩
  refine for_range (lo := 0) (n := (xc.length : Int).toNat) (fun i σ H' => ∃ (es : List EntM) (xs : List V) (y6 y7 y8 y9 : Option V), σ = [some (.ref a), some (.int first), some (.ref wd), some (.bl o), some (.ref st), some (.ref D), y6, y7, y8, y9, none, none] ∧
    H' D = some (.lst xs) ∧ xs.length = i ∧ DpAll K H' xs (es.map entM) ∧ (∀ e ∈ es, MOk W o e) ∧ es.length = i ∧ Same H1 H') ⟨[], [], none, none, none, none, rfl, upd_same, rfl, .nil, fun _ z => absurd z List.not_mem_nil, rfl, sD⟩ (fun i σ H2 hi hI => ?_) (fun σ H2 hI => ?_)
  · obtain ⟨es, xs, y6, y7, y8, y9, rfl, hDD, hxl, hdp, hok, hel, hs⟩ := hI
    have hi' : i < W.recs.length := by omega
    obtain ⟨z, hz1⟩ : ∃ z, W.recs[i]? = some z := ⟨_, List.getElem?_eq_getElem hi'⟩
    have ok := wg.ok.recs z (List.mem_of_getElem? hz1)
    refine ⟨_, rfl, _, rfl, wd, W, i, z, by rw [Int.zero_add]; rfl, wg.ok, hwd1.same hs, hz1, fun l ls H3 s3 hl0 hl hx => ?_⟩
    have t3 := hs.trans s3
    have hst3 := hst.same t3
    have lls := paired_len hx
    have lop := optsW_len wg.ok ok
    refine ⟨_, rfl, st, 6, rfl, by decide, hst3, fun kd kd0 kd1 => ?_⟩
    -- entry = None; the first test
    refine ⟨fun σ' H' => ∃ (e : EntM) (v : V), σ' = [some (.ref a), some (.int first), some (.ref wd), some (.bl o), some (.ref st), some (.ref D), some (.int (0 + (i : Int))), some (.ref l), some (.int kd), some v, none, none] ∧ MOk W o e ∧ Dp K H' v (entM e) ∧ Same H3 H', ?_, fun σ' H4 hm => ?_⟩
    · have no : ∃ (e : EntM) (v : V), ([some (V.ref a), some (.int first), some (.ref wd), some (.bl o), some (.ref st), some (.ref D), some (.int (0 + (i : Int))), some (.ref l), some (.int kd), some .non, none, none] : L2.St) = [some (.ref a), some (.int first), some (.ref wd), some (.bl o), some (.ref st), some (.ref D), some (.int (0 + (i : Int))), some (.ref l), some (.int kd), some v, none, none] ∧ MOk W o e ∧ Dp K H3 v (entM e) ∧ Same H3 H3 :=
        ⟨.non, .non, rfl, True.intro, .non, Same.refl _⟩
      refine ⟨_, rfl, _, _, rfl, rfl, _, rfl, ite2 (fun k1 => ⟨_, rfl, _, .inl ⟨ls, SqL.of hl, rfl⟩, ite2 (fun k2 => ?_) (fun k2 => ?_)⟩) (fun k1 => iteF ?_)⟩
      · have pos : 0 < ls.length := by
          cases ls with
          | nil => exact absurd k2 (by decide)
          | cons _ _ => exact Nat.succ_pos _
        refine ⟨_, rfl, _, rfl, st, 60, rfl, by decide, hst3, fun u u0 u1 => ⟨_, rfl, l, ls, rfl, .inl (SqL.of hl), _, _, rfl, rfl, (by show (0 : Int) < (ls.length : Int); omega), ?_⟩⟩
        have r0 : 0 ≤ u % (ls.length : Int) := Int.emod_nonneg _ (by omega)
        have r1 : u % (ls.length : Int) < (ls.length : Int) := Int.emod_lt_of_pos _ (by omega)
        obtain ⟨j, ej⟩ : ∃ j : Nat, u % (ls.length : Int) = (j : Int) := ⟨(u % (ls.length : Int)).toNat, by omega⟩
        obtain ⟨x, hxj⟩ : ∃ x, ls[j]? = some x := ⟨_, List.getElem?_eq_getElem (by omega)⟩
        obtain ⟨y, hy, sp⟩ := paired_at hx hxj
        have hm := optsW_mem ok (List.mem_of_getElem? hy)
        exact ⟨l, ls, _, x, rfl, rfl, SqL.of hl, by rw [ej]; exact atI_nat hxj, .at_ y.1 y.2, x, rfl, hm, dp_at sp, Same.refl _⟩
      all_goals
        refine ⟨_, rfl, rfl, _, rfl, ite2 (fun k3 => ⟨_, rfl, wd, _, rfl, get_p (t3 _ _ g), _, .inl ⟨xd, SqL.of (t3 _ _ d1), rfl⟩, ite2 (fun k4 => ?_) (fun k4 => no)⟩) (fun k3 => iteF no)⟩
        have pos : 0 < xd.length := by
          cases xd with
          | nil => exact absurd k4 (by decide)
          | cons _ _ => exact Nat.succ_pos _
        refine ⟨_, rfl, st, 60, rfl, by decide, hst3, fun u u0 u1 => ⟨_, rfl, wd, _, rfl, get_h (t3 _ _ g), _, _, rfl, rfl, _, _, rfl, rfl, (by show (0 : Int) < W.horizon + 1; omega), ?_⟩⟩
        refine ⟨_, rfl, _, rfl, wd, _, rfl, get_p (t3 _ _ g), we, xd, rfl, .inl (SqL.of (t3 _ _ d1)), st, (xd.length : Int), rfl, by omega, hst3, fun v v0 v1 => ⟨sz2_, fun t ht => ?_⟩⟩
        have r0 : 0 ≤ u % (W.horizon + 1) := Int.emod_nonneg _ (by omega)
        have r1 : u % (W.horizon + 1) < W.horizon + 1 := Int.emod_lt_of_pos _ (by omega)
        exact ⟨.at_ (u % (W.horizon + 1)) v, .ref t, rfl, ⟨r0, by omega, v0, by omega⟩, .tup (SqT.of upd_same) (.cons (.int _) (.cons (.int _) .nil)), same_new ht _⟩
    obtain ⟨e, v, rfl, eok, edp, s4⟩ := hm
    refine ⟨fun σ' H' => ∃ (e : EntM) (v : V), σ' = [some (.ref a), some (.int first), some (.ref wd), some (.bl o), some (.ref st), some (.ref D), some (.int (0 + (i : Int))), some (.ref l), some (.int kd), some v, none, none] ∧ MOk W o e ∧ Dp K H' v (entM e) ∧ Same H3 H', ?_, fun σ' H5 hm => ?_⟩
    · have hst4 := hst3.same s4
      refine ⟨_, rfl, o, rfl, ite2 (fun k1 => ⟨_, rfl, st, 3, rfl, by decide, hst4, fun u u0 u1 => ⟨rfl, _, rfl, ite2 (fun k2 => ?_) (fun k2 => ?_)⟩⟩) (fun k1 => iteF ?_)⟩
      · exact ⟨.opn, .str "open", rfl, k1, .str _, s4⟩
      · exact ⟨e, v, rfl, eok, edp, s4⟩
      · exact ⟨e, v, rfl, eok, edp, s4⟩
    obtain ⟨e, v, rfl, eok, edp, s5⟩ := hm
    have dD := (s3.trans s5) _ _ hDD
    refine ⟨_, rfl, .inl ⟨rfl, _, SqL.of dD⟩, _, rfl, D, xs, v, rfl, rfl, dD, small1000 (by omega), ?_⟩
    refine ⟨es ++ [e], xs ++ [v], _, _, _, _, rfl, upd_same, by rw [List.length_append, List.length_singleton, hxl], ?_, all_snoc hok eok, by rw [List.length_append, List.length_singleton, hel], same_at hD (t3.trans s5) _⟩
    rw [List.map_append]
    exact dpAll_snoc (dpTs_up (noLs_map noL_entM es) dD (dpAll_same (s3.trans s5) hdp)) (dpT_up (noL_entM e) dD edp)
  · obtain ⟨es, xs, y6, y7, y8, y9, rfl, hDD, hxl, hdp, hok, hel, hs⟩ := hI
    have hst2 := hst.same hs
    refine ⟨Nat.zero_le _, fun F hF => ?_⟩
    have sF := same_new hF (.lst [])
    have nF : D ≠ F := ne_of_none hDD hF
    refine ⟨_, rfl, wd, _, rfl, get_p ((hs.trans sF) _ _ g), we, xd, rfl, .inl (SqL.of ((hs.trans sF) _ _ d1)), _, rfl, by omega, by omega, ?_⟩
    refine for_range (lo := 0) (n := (xd.length : Int).toNat) (fun i σ H' => ∃ (fs : List EntT) (ys : List V) (y8 y9 y11 : Option V), σ = [some (.ref a), some (.int first), some (.ref wd), some (.bl o), some (.ref st), some (.ref D), y6, y7, y8, y9, some (.ref F), y11] ∧
      H' F = some (.lst ys) ∧ ys.length = i ∧ DpAll K H' ys (fs.map entT) ∧ (∀ e ∈ fs, TOk o e) ∧ fs.length = i ∧ Same H2 H') ⟨[], [], _, _, none, rfl, upd_same, rfl, .nil, fun _ z => absurd z List.not_mem_nil, rfl, sF⟩ (fun i σ H3 hi hI => ?_) (fun σ H3 hI => ?_)
    · obtain ⟨fs, ys, y8, y9, y11, rfl, hFF, hyl, hdq, hok2, hfl, hq⟩ := hI
      have t3 := hs.trans hq
      have hst3 := hst.same t3
      have hi' : i < W.pass.length := by omega
      obtain ⟨z, hz1⟩ : ∃ z, W.pass[i]? = some z := ⟨_, List.getElem?_eq_getElem hi'⟩
      have ok := wg.ok.pass z (List.mem_of_getElem? hz1)
      obtain ⟨vp, evp, dvp⟩ := dpAll_get2 d2 hz1
      obtain ⟨tp, tp1, tp2, rfl, w1, _, _⟩ := pas_open dvp
      obtain ⟨zt, hzt⟩ : ∃ zt, W.stas[z.sta]? = some zt := ⟨_, List.getElem?_eq_getElem ok.sta⟩
      have okt := wg.ok.stas zt (List.mem_of_getElem? hzt)
      obtain ⟨vt, evt, dvt⟩ := dpAll_get2 b2 hzt
      obtain ⟨tt, rfl, w2⟩ := sta_open dvt
      have w1 := Same.tup t3 w1
      have w2 := Same.tup t3 w2
      have ant := okt.antennas
      refine ⟨_, rfl, st, 6, rfl, by decide, hst3, fun kd kd0 kd1 => ?_⟩
      -- an antenna
      refine ⟨fun σ' H' => H' = H3 ∧ ∃ (e : EntT) (v : V), σ' = [some (.ref a), some (.int first), some (.ref wd), some (.bl o), some (.ref st), some (.ref D), y6, y7, some (.int kd), some v, some (.ref F), some (.int (0 + (i : Int)))] ∧ TOk o e ∧ Dp K H' v (entT e), ?_, fun σ' H4 hm => ?_⟩
      · refine ⟨_, rfl, _, _, rfl, rfl, _, rfl, ite2 (fun k1 => ?_) (fun k1 => ?_)⟩
        · refine ⟨_, rfl, _, rfl, wd, _, rfl, get_t (t3 _ _ g), _, rfl, wd, _, rfl, get_p (t3 _ _ g), _, rfl, we, xd, (i : Int), _, rfl, by rw [Int.zero_add], SqL.of (t3 _ _ d1), atI_nat evp, tp, _, 2, _, rfl, rfl, w1, rfl, wb, xb, (z.sta : Int), _, rfl, rfl, SqL.of (t3 _ _ b1), atI_nat evt, tt, _, 1, _, rfl, rfl, w2, rfl, st, zt.antennas, rfl, by omega, hst3, fun u u0 u1 => ?_⟩
          exact ⟨rfl, .ant u, .int u, rfl, ⟨u0, by omega⟩, .int u⟩
        · exact ⟨rfl, .non, .non, rfl, True.intro, .non⟩
      obtain ⟨rfl, e, v, rfl, eok, edp⟩ := hm
      refine ⟨fun σ' H' => H' = H4 ∧ ∃ (e : EntT) (v : V), σ' = [some (.ref a), some (.int first), some (.ref wd), some (.bl o), some (.ref st), some (.ref D), y6, y7, some (.int kd), some v, some (.ref F), some (.int (0 + (i : Int)))] ∧ TOk o e ∧ Dp K H' v (entT e), ?_, fun σ' H5 hm => ?_⟩
      · refine ⟨_, rfl, rfl, _, rfl, ite2 (fun k1 => ⟨_, rfl, st, 4, rfl, by decide, hst3, fun u u0 u1 => ⟨rfl, _, rfl, ite2 (fun k2 => ?_) (fun k2 => ?_)⟩⟩) (fun k1 => iteF ?_)⟩
        · exact ⟨_, rfl, st, 5, rfl, by decide, hst3, fun x x0 x1 => ⟨_, _, rfl, rfl, rfl, .ant (1 + x), .int (1 + x), rfl, ⟨by omega, by omega⟩, .int _⟩⟩
        · exact ⟨rfl, e, v, rfl, eok, edp⟩
        · exact ⟨rfl, e, v, rfl, eok, edp⟩
      obtain ⟨rfl, e, v, rfl, eok, edp⟩ := hm
      refine ⟨fun σ' H' => H' = H5 ∧ ∃ (e : EntT) (v : V), σ' = [some (.ref a), some (.int first), some (.ref wd), some (.bl o), some (.ref st), some (.ref D), y6, y7, some (.int kd), some v, some (.ref F), some (.int (0 + (i : Int)))] ∧ TOk o e ∧ Dp K H' v (entT e), ?_, fun σ' H6 hm => ?_⟩
      · refine ⟨_, rfl, o, rfl, ite2 (fun k1 => ⟨_, rfl, st, 3, rfl, by decide, hst3, fun u u0 u1 => ⟨rfl, _, rfl, ite2 (fun k2 => ?_) (fun k2 => ?_)⟩⟩) (fun k1 => iteF ?_)⟩
        · exact ⟨rfl, .opn, .str "open", rfl, k1, .str _⟩
        · exact ⟨rfl, e, v, rfl, eok, edp⟩
        · exact ⟨rfl, e, v, rfl, eok, edp⟩
      obtain ⟨rfl, e, v, rfl, eok, edp⟩ := hm
      refine ⟨_, rfl, .inl ⟨rfl, _, SqL.of hFF⟩, _, rfl, F, ys, v, rfl, rfl, hFF, small1000 (by omega), ?_⟩
      refine ⟨fs ++ [e], ys ++ [v], _, _, _, rfl, upd_same, by rw [List.length_append, List.length_singleton, hyl], ?_, all_snoc hok2 eok, by rw [List.length_append, List.length_singleton, hfl], same_at hF hq _⟩
      rw [List.map_append]
      exact dpAll_snoc (dpTs_up (noLs_map noL_entT fs) hFF hdq) (dpT_up (noL_entT e) hFF edp)
    · obtain ⟨fs, ys, y8, y9, y11, rfl, hFF, hyl, hdq, hok2, hfl, hq⟩ := hI
      refine ⟨_, rfl, D, xs, rfl, .inl ⟨SqL.of (hq _ _ hDD), fun t1 ht1 => ?_⟩⟩
      have v1 := same_new ht1 (.tup xs)
      refine ⟨_, rfl, F, ys, rfl, .inl ⟨SqL.of (v1 _ _ hFF), fun t2 ht2 => ⟨sz2_, fun t3 ht3 => ?_⟩⟩⟩
      have v2 := same_new ht2 (.tup ys)
      have v3 := same_new ht3 (.tup [.ref t1, .ref t2])
      refine q (.ref t3) _ ⟨es, fs⟩ (s1.trans (hs.trans (hq.trans (v1.trans (v2.trans v3))))) ⟨by show es.length = _; omega, by show fs.length = _; omega, hok, hok2⟩ ?_
      exact .tup (SqT.of upd_same) (.cons (.tup (SqT.of ((v2.trans v3) _ _ upd_same)) (dpAll_same (hq.trans (v1.trans (v2.trans v3))) hdp)) (.cons (.tup (SqT.of (v3 _ _ upd_same)) (dpAll_same (v1.trans (v2.trans v3)) hdq)) .nil))
end
end DP
namespace DP
open PySem PySem.Spec PyProof.Rows L2
theorem sz1_ : 1 ≤ sizeLine := by decide
theorem hu65 {k : Nat} {A : Around} (hr : Room k A) : A.units + 65 < cLine := by have := hr.un; omega
theorem lay_map {α : Type} {f : α → PyData} (h : ∀ a, (f a).canLay0 = true) : ∀ l : List α, PyData.canLayAll0 (l.map f) = true
  | [] => rfl
  | a :: r => by
    show ((f a).canLay0 && PyData.canLayAll0 (r.map f)) = true
    rw [h a, lay_map h r]
    rfl
theorem depth_map {α : Type} {f : α → PyData} {n : Nat} (h : ∀ a, (f a).depth ≤ n) : ∀ l : List α, PyData.depthAll (l.map f) ≤ n
  | [] => Nat.zero_le _
  | a :: r => by
    show max (f a).depth (PyData.depthAll (r.map f)) ≤ n
    exact Nat.max_le.mpr ⟨h a, depth_map h r⟩
theorem hu64 {k : Nat} {A : Around} (hr : Room k A) : A.units + 64 < cLine := by have := hr.un; omega
theorem case_two {K : PySem.W.Frag} {H : Hp} {v : V} {c : CaseD} (h : Dp K H v (casePy c)) : ∃ t tm tt xm xt, v = .ref t ∧ SqT K H t [.ref tm, .ref tt] ∧ SqT K H tm xm ∧ SqT K H tt xt ∧ DpAll K H xm (c.made.map entM) ∧ DpAll K H xt (c.taken.map entT) ∧ xm.length = c.made.length ∧ xt.length = c.taken.length := by
  obtain ⟨t, xs, rfl, ht, hx⟩ := dp_tup h
  cases hx with
  | cons a0 hx =>
  cases hx with
  | cons a1 hx =>
  cases hx
  obtain ⟨tm, xm, rfl, hm, hxm⟩ := dp_tup a0
  obtain ⟨tt, xt, rfl, htt, hxt⟩ := dp_tup a1
  have lm := dpAll_len hxm
  have lt := dpAll_len hxt
  rw [List.length_map] at lm lt
  exact ⟨t, tm, tt, xm, xt, rfl, ht, hm, htt, hxm, hxt, lm, lt⟩
structure TxtO (mg : Str → Option Value) : Prop where
  g_OPEN : ∃ t, mg "OPEN" = some (.str "open" t)
theorem lay_entM (a : EntM) : SeqAt.shaped (entM a) = true := by cases a <;> first | rfl | decide +kernel
theorem lay_entT (a : EntT) : SeqAt.shaped (entT a) = true := by cases a <;> first | rfl | decide +kernel
end DP
namespace DP
open PySem PySem.Spec PyProof.Rows L2
theorem WorldAt.bare {K : PySem.W.Frag} {CS CT CR CP CW C : Addr} {H H' : Hp} {a x dx0 : Addr} {W : WorldD} (h : WorldAt K CS CT CR CP CW H a W) (hx : H x = some (.ins C dx0 [])) (z : SameX x H H') : WorldAt K CS CT CR CP CW H' a W := by
  obtain ⟨dx, t0, t1, t2, t3, x0, x1, x2, x3, g, a0, b0, a1, b1, a2, b2, a3, b3⟩ := h.ex
  refine ⟨dx, t0, t1, t2, t3, x0, x1, x2, x3, z _ _ (ne_bare hx g (by show 6 ≠ 0; decide)) g, z.sqT hx a0, Paired.mapP b0 fun _ _ q => ?_, z.sqT hx a1, Paired.mapP b1 fun _ _ q => ?_, z.sqT hx a2, Paired.mapP b2 fun _ _ q => ?_, z.sqT hx a3, Paired.mapP b3 fun _ _ q => ?_⟩
  · obtain ⟨b, dx, t, ls, h1, h2, h3, h4⟩ := q
    exact ⟨b, dx, t, ls, h1, z _ _ (ne_bare hx h2 (by show 8 ≠ 0; decide)) h2, z.sqT hx h3, z.spans hx h4⟩
  · obtain ⟨b, dx, h1, h2⟩ := q
    exact ⟨b, dx, h1, z _ _ (ne_bare hx h2 (by show 3 ≠ 0; decide)) h2⟩
  · obtain ⟨b, dx, h1, h2⟩ := q
    exact ⟨b, dx, h1, z _ _ (ne_bare hx h2 (by show 10 ≠ 0; decide)) h2⟩
  · obtain ⟨b, dx, t, h1, h2, h3⟩ := q
    exact ⟨b, dx, t, h1, z _ _ (ne_bare hx h2 (by show 7 ≠ 0; decide)) h2, z.sqT hx h3⟩
theorem noL_case (c : CaseD) : noL (casePy c) := by
  have h1 := noLs_map noL_entM c.made
  have h2 := noLs_map noL_entT c.taken
  unfold casePy
  simp [noL, noLs, h1, h2]
theorem dp_bare {K : PySem.W.Frag} {C : Addr} {H H' : Hp} {x dx0 : Addr} {v : V} {d : PyData} (n : noL d) (h : Dp K H v d) (hx : H x = some (.ins C dx0 [])) (z : SameX x H H') : Dp K H' v d := dpT_map (fun _ _ q => z.sqT hx q) n h
end DP
namespace DP
open PySem PySem.Spec PyProof.Rows L2
abbrev s_is_tuple_of : Stmt := topS 5
theorem sc_is_tuple_of : FnScope ["thing", "many"] ["thing", "many"] (defScope s_is_tuple_of) := ⟨rfl, rfl, rfl, by decide +kernel, rfl, by decide +kernel, by decide +kernel⟩
section
variable {P : Program} {w : World} {K : PySem.W.Frag} {mg : Str → Option Value} {base : Heap}
def spIsTup (K : PySem.W.Frag) : Sp := fun vs H Q _ => ∃ (t : Addr) (xs : List V) (m : Int), vs = [.ref t, .int m] ∧ SqT K H t xs ∧ Q (.bl (decide (V.int (xs.length : Int) = V.int m))) H
theorem d_is_tuple_of (B : Bt mg) (A : At K mg "is_tuple_of" s_is_tuple_of ["thing", "many"]) : DefOk P w K mg base CX0 1 "is_tuple_of" ["thing", "many"] (spIsTup K) := by
  refine A.ok sc_is_tuple_of (fun vs H Q E h => ?_) (fun f cdv A outer s H vs Q E hr h => ?_)
  · obtain ⟨t, xs, m, rfl, _⟩ := h
    rfl
  obtain ⟨t, xs, m, rfl, ht, q⟩ := h
  refine ⟨_, pss_one (ps_ret (pe_and (pe_callB (call_isi) (by rfl) B.isinstance (by decide +kernel) (pa_cons (pv 0) (pa_cons (pe_bltn (v := .ty "tuple") (u := .type "tuple") (by rfl) B.tuple (by decide +kernel) rfl) pa_nil))) (pe_one (pe_cmpR op_eq (pe_callB (call_len_seq) (by rfl) B.len (by decide +kernel) (pa_cons (pv 0) pa_nil)) (pv 1) (nomark _)))))
    , ?_⟩
  exact ⟨_, rfl, _, .ty "tuple", _, _, true, rfl, .ty "tuple", tyx_tup ht, kit_ty (by decide +kernel), true, rfl, iteT' rfl ⟨_, rfl, t, xs, rfl, .inr ht, _, rfl, rfl, q⟩⟩
end
end DP
namespace DP
open PySem PySem.Spec PyProof.Rows L2
/-- the class BadPlan -/
structure TxtE (K : PySem.W.Frag) (mg : Str → Option Value) (CB : Addr) : Prop where
  gB : mg "BadPlan" = some (.ref CB)
  xB : PySem.W.excIn K CB [.type "ValueError", .type "Exception", .type "BaseException", .type "object"] "ValueError.__new__" = true
  kB : PySem.W.keepIn K (.ref CB) = true
  bB : PySem.W.subIn K (.ref CB) (.type "BaseException") = some true
  tB : PySem.W.typeIn K (.ref CB) = some (.type "type")
  iB : PySem.W.isClsIn K CB = true
  sB : PySem.W.subIn K (.ref CB) (.ref CB) = some true
theorem TxtE.te {K : PySem.W.Frag} {mg : Str → Option Value} {CB : Addr} (T : TxtE K mg CB) : PySem.W.exmOne K (.ref CB) (.ref CB) = some true := by
  have e1 : (PySem.W.subIn K (.ref CB) (.type "BaseException") == some true) = true := by rw [T.bB] <;> rfl
  have e2 : ((PySem.W.clsIn K CB).isSome && PySem.W.typeIn K (.ref CB) == some (.type "type")) = true := by
    have h2' : (PySem.W.clsIn K CB).isSome = true := T.iB
    rw [h2', T.tB] <;> rfl
  show (if (PySem.W.subIn K (.ref CB) (.type "BaseException") == some true) = true then (if ((PySem.W.clsIn K CB).isSome && PySem.W.typeIn K (.ref CB) == some (.type "type")) = true then PySem.W.subIn K (.ref CB) (.ref CB) else none) else none) = some true
  rw [if_pos e1, if_pos e2]
  exact T.sB
section
variable {P : Program} {w : World} {K : PySem.W.Frag} {mg : Str → Option Value} {base : Heap} {x : Str} {st : Stmt} {ps N : List Str} {k : Nat} {sp sp' : Sp}
theorem At.okX (F : At K mg x st ps) (S : FnScope N ps (defScope st)) (len : ∀ vs H Q E, sp vs H Q E → vs.length = ps.length)
    (hbody : ∀ (f : Addr) (cdv : Value) (A : Around) (outer : List Env) (s : Shared) (H : Hp) (vs : List V) (Q : VK) (E : XK), Room k (A.deeper (envOfC x (defScope st) s.heap.objs.size f cdv)) → sp vs H Q E →
      ∃ t, PSs (cxOf (L2.CX P w) P w K mg base N x (defScope st) f cdv A outer s H E) (defBody st) t ∧ t { nx := fun _ H' => Q .non H', rt := Q } (start N vs) H) : DefOk P w K mg base (L2.CX P w) (k + 1) x ps sp := by
  obtain ⟨f, fd, G, m, b⟩ := F.ex
  obtain ⟨oc, od, _, _, _, _, _, _, osl, _, lk, _⟩ := G.ex
  exact ⟨f, fd, G.okX S len (fun cdv A outer s H vs Q E hr h => hbody f cdv A outer s H vs Q E hr h), m, G.kp, b, oc, od, osl, lk⟩
end
end DP
namespace DP
open PySem PySem.Spec PyProof.Rows L2
abbrev s_is_option : Stmt := topS 32
theorem sc_is_option : FnScope ["world", "number", "pair", "recording", "start", "p", "chance", "first", "end"] ["world", "number", "pair"] (defScope s_is_option) := ⟨rfl, rfl, rfl, by decide +kernel, rfl, by decide +kernel, by decide +kernel⟩
abbrev s_has_antenna : Stmt := topS 33
theorem sc_has_antenna : FnScope ["world", "p", "antenna", "station"] ["world", "p", "antenna"] (defScope s_has_antenna) := ⟨rfl, rfl, rfl, by decide +kernel, rfl, by decide +kernel, by decide +kernel⟩
abbrev s_is_filled : Stmt := topS 50
theorem sc_is_filled : FnScope ["entry"] ["entry"] (defScope s_is_filled) := ⟨rfl, rfl, rfl, by decide +kernel, rfl, by decide +kernel, by decide +kernel⟩
abbrev s_made_recordings : Stmt := topS 57
theorem sc_made_recordings : FnScope ["world", "case", "found", "r", "entry", "start", "p"] ["world", "case"] (defScope s_made_recordings) := ⟨rfl, rfl, rfl, by decide +kernel, rfl, by decide +kernel, by decide +kernel⟩
abbrev s_taken_passes : Stmt := topS 58
theorem sc_taken_passes : FnScope ["world", "case", "p", "entry"] ["world", "case"] (defScope s_taken_passes) := ⟨rfl, rfl, rfl, by decide +kernel, rfl, by decide +kernel, by decide +kernel⟩
/-- a list of data that grows -/
def DL {α : Type} (K : PySem.W.Frag) (f : α → PyData) (H : Hp) (D : Addr) (l : List α) : Prop := ∃ xs, H D = some (.lst xs) ∧ DpAll K H xs (l.map f)
section
variable {α : Type} {K : PySem.W.Frag} {f : α → PyData} {H H' : Hp} {D : Addr} {l : List α} {a : α} {v : V}
theorem DL.same (h : DL K f H D l) (s : Same H H') : DL K f H' D l := by
  obtain ⟨xs, h1, h2⟩ := h
  exact ⟨xs, s _ _ h1, dpAll_same s h2⟩
theorem DL.nil : DL K f (upd H D (.lst [])) D ([] : List α) := ⟨[], upd_same, .nil⟩
/-- what append asks, and what is left -/
theorem DL.push (nf : ∀ a, noL (f a)) (h : DL K f H D l) (hv : Dp K H v (f a)) (hl : l.length < 1000) : ∃ xs, H D = some (.lst xs) ∧ xs.length < sizeLine ∧ DL K f (upd H D (.lst (xs ++ [v]))) D (l ++ [a]) := by
  obtain ⟨xs, h1, h2⟩ := h
  have := dpAll_len h2
  rw [List.length_map] at this
  refine ⟨xs, h1, small1000 (by omega), xs ++ [v], upd_same, ?_⟩
  rw [List.map_append]
  exact dpAll_snoc (dpTs_up (noLs_map nf l) h1 h2) (dpT_up (nf a) h1 hv)
end
def isOpt (z : RecD) (s : Int) (c : PasD) : Bool := decide (z.earliest ≤ s) && (decide (s ≤ z.latest) && okP z s c)
def optB (W : WorldD) (z : RecD) (s p : Int) : Bool := match W.pass[p.toNat]? with
  | some c => decide (0 ≤ p) && isOpt z s c
  | none => false
def filB : PyData → Bool
  | .none => false
  | d => !PyData.eqv d (.str "open")
def madeAt (W : WorldD) (c : CaseD) (r : Nat) : List (Nat × Int × Int) := match W.recs[r]?, c.made[r]? with
  | some z, some (.at_ s p) => if optB W z s p = true then [(r, s, p)] else []
  | _, _ => []
def madeL (W : WorldD) (c : CaseD) (n : Nat) : List (Nat × Int × Int) := (List.range n).flatMap (madeAt W c)
def antB (W : WorldD) (c : CaseD) (p : Nat) : Bool := match W.pass[p]?, c.taken[p]? with
  | some z, some (.ant n) => match W.stas[z.sta]? with
    | some t => decide (0 ≤ n) && decide (n < t.antennas)
    | none => false
  | _, _ => false
def takL (W : WorldD) (c : CaseD) (n : Nat) : List Nat := (List.range n).filter (antB W c)
def tripPy (q : Nat × Int × Int) : PyData := .tuple [.int (q.1 : Int), .int q.2.1, .int q.2.2]
theorem noL_trip (q : Nat × Int × Int) : noL (tripPy q) := by unfold tripPy; simp [noL, noLs]
theorem madeL_succ (W : WorldD) (c : CaseD) (n : Nat) : madeL W c (n + 1) = madeL W c n ++ madeAt W c n := by
  unfold madeL
  rw [List.range_succ, List.flatMap_append, List.flatMap_cons, List.flatMap_nil, List.append_nil]
theorem madeAt_len (W : WorldD) (c : CaseD) (r : Nat) : (madeAt W c r).length ≤ 1 := by
  unfold madeAt
  split
  · split <;> simp
  · exact Nat.zero_le _
theorem madeL_len (W : WorldD) (c : CaseD) : ∀ n, (madeL W c n).length ≤ n
  | 0 => Nat.zero_le _
  | n + 1 => by
    rw [madeL_succ, List.length_append]
    have h1 := madeL_len W c n
    have h2 := madeAt_len W c n
    omega
theorem takL_succ (W : WorldD) (c : CaseD) (n : Nat) : takL W c (n + 1) = takL W c n ++ if antB W c n = true then [n] else [] := by
  unfold takL
  rw [List.range_succ, List.filter_append, List.filter_cons, List.filter_nil]
theorem takL_len (W : WorldD) (c : CaseD) (n : Nat) : (takL W c n).length ≤ n := by
  unfold takL
  refine Nat.le_trans (List.length_filter_le _ _) ?_
  rw [List.length_range]
  exact Nat.le_refl _
theorem mem_made {W : WorldD} {c : CaseD} {n : Nat} {q : Nat × Int × Int} (h : q ∈ madeL W c n) : q.1 < n ∧ ∃ z y, W.recs[q.1]? = some z ∧ W.pass[q.2.2.toNat]? = some y ∧ 0 ≤ q.2.2 ∧ isOpt z q.2.1 y = true := by
  obtain ⟨k, hk, hq⟩ := List.mem_flatMap.mp h
  rw [List.mem_range] at hk
  unfold madeAt at hq
  split at hq
  · rename_i z s p hz he
    split at hq
    · rename_i ho
      have e := List.mem_singleton.mp hq
      subst e
      unfold optB at ho
      split at ho
      · rename_i y hy
        obtain ⟨h1, h2⟩ := Bool.and_eq_true_iff.mp ho
        exact ⟨hk, z, y, hz, hy, of_decide_eq_true h1, h2⟩
      · cases ho
    · exact absurd hq List.not_mem_nil
  · exact absurd hq List.not_mem_nil
theorem mem_tak {W : WorldD} {c : CaseD} {n p : Nat} (h : p ∈ takL W c n) : p < n ∧ antB W c p = true := by
  obtain ⟨h1, h2⟩ := List.mem_filter.mp h
  exact ⟨List.mem_range.mp h1, h2⟩
section
variable {P : Program} {w : World} {K : PySem.W.Frag} {mg : Str → Option Value} {base : Heap} {CL CS CT CR CP CW aS aR fS fT fR fP : Addr}
def spIsOption (K : PySem.W.Frag) (CS CT CR CP CW : Addr) : Sp := fun vs H Q _ => ∃ (ac t : Addr) (W : WorldD) (i k : Nat) (z : RecD) (c : PasD) (s : Int), vs = [.ref ac, .int (i : Int), .ref t] ∧ WorldAt K CS CT CR CP CW H ac W ∧ W.recs[i]? = some z ∧ W.pass[k]? = some c ∧ SqT K H t [.int s, .int (k : Int)] ∧
  Q (.bl (isOpt z s c)) H
set_option maxHeartbeats 4000000 in
theorem d_is_option (T : TxtW K mg CL CS CT CR CP CW aS aR fS fT fR fP) (A : At K mg "is_option" s_is_option ["world", "number", "pair"]) : DefOk P w K mg base CX0 1 "is_option" ["world", "number", "pair"] (spIsOption K CS CT CR CP CW) := by
  have B := T.L.B
  refine A.ok sc_is_option (fun vs H Q E h => ?_) (fun f cdv A outer s H vs Q E hr h => ?_)
  · obtain ⟨ac, t, W, i, k, z, c, s, rfl, _⟩ := h
    rfl
  obtain ⟨ac, t, W, i, k, z, c, s0, rfl, hW, hz, hc, ht, q⟩ := h
  obtain ⟨dx, t0, t1, t2, t3, x0, x1, x2, x3, gw, _, _, _, _, p2, q2, p3, q3⟩ := hW.ex
  have l2 := paired_len q2
  have l3 := paired_len q3
  have hi : i < W.recs.length := (List.getElem?_eq_some_iff.mp hz).1
  have hk : k < W.pass.length := (List.getElem?_eq_some_iff.mp hc).1
  obtain ⟨x, hx⟩ : ∃ x, x2[i]? = some x := ⟨_, List.getElem?_eq_getElem (by omega)⟩
  obtain ⟨z', hz', ob, od, rfl, o1⟩ := paired_at q2 hx
  rw [hz] at hz'
  cases hz'
  obtain ⟨y, hy⟩ : ∃ x, x3[k]? = some x := ⟨_, List.getElem?_eq_getElem (by omega)⟩
  obtain ⟨c', hc', pb, pd, ts, rfl, c1, c2⟩ := paired_at q3 hy
  rw [hc] at hc'
  cases hc'
  refine ⟨_, pss_cons (ps_set (i := 3) sc_is_option.nd rfl (Or.inl rfl) (pe_ix ix_tup (pe_fld (pv 0) rfl) (pv 1) (fun _ _ => rfl)))
  (pss_cons (ps_asg (pv 2) (pg_tup (by rfl) (pgs_cons (pg_name (i := 4) sc_is_option.nd rfl (Or.inl rfl)) (pgs_cons (pg_name (i := 5) sc_is_option.nd rfl (Or.inl rfl)) (pgs_nil)))))
  (pss_cons (ps_set (i := 6) sc_is_option.nd rfl (Or.inl rfl) (pe_ix ix_tup (pe_fld (pv 0) rfl) (pv 5) (fun _ _ => rfl)))
  (pss_cons (ps_if (PW.pt (pw_or (pt_cmpR op_ne (pe_fld (pv 6) rfl) (pe_fld (pv 3) rfl) (nomark _)) (pw_or1 (pt_not (pt_chain op_le op_le (pe_fld (pv 3) rfl) (pv 4) (pe_fld (pv 3) rfl))))))
      (pss_one (ps_ret pe_bl))
      (pss_nil))
  (pss_cons (ps_asg (pe_fld (pv 6) rfl) (pg_tup (by rfl) (pgs_cons (pg_name (i := 7) sc_is_option.nd rfl (Or.inl rfl)) (pgs_cons (pg_name (i := 8) sc_is_option.nd rfl (Or.inl rfl)) (pgs_nil)))))
  (pss_one (ps_ret (pe_and (pe_cmpR op_le (pe_op op_add (pv 4) (pe_fld (pv 3) rfl)) (pv 7) (nomark _)) (pe_one (pe_cmpR op_le (pv 8) (pe_fld (pv 3) rfl) (nomark _))))))))))
    , ?_⟩
  refine ⟨_, rfl, ac, CW, dx, _, _, rfl, gw, T.c_World.cl, T.n_World_recordings, lk_World_recordings, _, rfl, t2, x2, (i : Int), _, rfl, rfl, p2, atI_nat hx, ?_⟩
  refine ⟨_, rfl, t, _, rfl, ht, rfl, _, _, rfl, _, _, rfl, rfl, ?_⟩
  refine ⟨_, rfl, ac, CW, dx, _, _, rfl, gw, T.c_World.cl, T.n_World_passes, lk_World_passes, _, rfl, t3, x3, (k : Int), _, rfl, rfl, p3, atI_nat hy, ?_⟩
  have no : isOpt z s0 c = false → Q (.bl false) H := fun e => by rw [e] at q; exact q
  refine ⟨_, rfl, pb, CP, pd, _, _, rfl, c1, T.c_Pass.cl, T.n_Pass_satellite, lk_Pass_satellite, _, rfl, ob, CR, od, _, _, rfl, o1, T.c_Recording.cl, T.n_Recording_satellite, lk_Recording_satellite, rfl, _, rfl, ite2 (fun e1 => iteT ?_) (fun e1 => ?_)⟩
  · refine no ?_
    have e2 : ¬ (c.sat : Int) = (z.sat : Int) := fun h => by rw [h, decide_eq_true rfl] at e1; cases e1
    unfold isOpt okP
    rw [decide_eq_false e2, Bool.false_and, Bool.and_false, Bool.and_false]
  have e2 : (c.sat : Int) = (z.sat : Int) := by
    by_cases h : (c.sat : Int) = (z.sat : Int)
    · exact h
    · exact absurd (by rw [decide_eq_false (fun y : V.int (c.sat : Int) = V.int (z.sat : Int) => h (V.int.inj y))]; rfl) e1
  have ed : decide ((c.sat : Int) = (z.sat : Int)) = true := decide_eq_true e2
  refine ⟨_, rfl, ob, CR, od, _, _, rfl, o1, T.c_Recording.cl, T.n_Recording_earliest, lk_Recording_earliest, _, rfl, _, _, rfl, rfl, _, rfl, ite2 (fun e3 => ?_) (fun e3 => ?_)⟩
  · refine ⟨_, rfl, ob, CR, od, _, _, rfl, o1, T.c_Recording.cl, T.n_Recording_latest, lk_Recording_latest, _, _, rfl, rfl, _, rfl, ?_⟩
    have e3' : decide (z.earliest ≤ s0) = true := e3
    by_cases e4 : s0 ≤ z.latest
    · refine iteF' (by rw [decide_eq_true e4]; rfl) ?_
      refine ⟨_, rfl, pb, CP, pd, _, _, rfl, c1, T.c_Pass.cl, T.n_Pass_span, lk_Pass_span, ts, _, rfl, c2, rfl, _, _, rfl, _, _, rfl, rfl, ?_⟩
      refine ⟨_, rfl, _, rfl, ob, CR, od, _, _, rfl, o1, T.c_Recording.cl, T.n_Recording_length, lk_Recording_length, _, _, rfl, rfl, _, rfl, _, _, rfl, rfl, _, rfl, ite2 (fun e5 => ?_) (fun e5 => no ?_)⟩
      · have e5' : decide (s0 + z.length ≤ c.first) = true := e5
        refine ⟨_, rfl, _, rfl, ob, CR, od, _, _, rfl, o1, T.c_Recording.cl, T.n_Recording_deadline, lk_Recording_deadline, _, _, rfl, rfl, ?_⟩
        unfold isOpt okP at q
        rw [e3', decide_eq_true e4, ed, e5', Bool.true_and, Bool.true_and, Bool.true_and, Bool.true_and] at q
        exact q
      · unfold isOpt okP
        rw [show decide (s0 + z.length ≤ c.first) = false from Bool.eq_false_iff.mpr e5, Bool.false_and, Bool.and_false, Bool.and_false, Bool.and_false]
    · refine iteT' (by rw [decide_eq_false e4]; rfl) (no ?_)
      unfold isOpt
      rw [decide_eq_false e4, Bool.false_and, Bool.and_false]
  · refine ⟨_, rfl, iteT' rfl (no ?_)⟩
    unfold isOpt
    rw [show decide (z.earliest ≤ s0) = false from Bool.eq_false_iff.mpr e3, Bool.false_and]
def spHasAnt (K : PySem.W.Frag) (CS CT CR CP CW : Addr) : Sp := fun vs H Q _ => ∃ (ac : Addr) (W : WorldD) (k : Nat) (n : Int) (z : PasD) (t : StaD), vs = [.ref ac, .int (k : Int), .int n] ∧ WorldAt K CS CT CR CP CW H ac W ∧ W.pass[k]? = some z ∧ W.stas[z.sta]? = some t ∧
  Q (.bl (decide (0 ≤ n) && decide (n < t.antennas))) H
theorem d_has_antenna (T : TxtW K mg CL CS CT CR CP CW aS aR fS fT fR fP) (A : At K mg "has_antenna" s_has_antenna ["world", "p", "antenna"]) : DefOk P w K mg base CX0 1 "has_antenna" ["world", "p", "antenna"] (spHasAnt K CS CT CR CP CW) := by
  have B := T.L.B
  refine A.ok sc_has_antenna (fun vs H Q E h => ?_) (fun f cdv A outer s H vs Q E hr h => ?_)
  · obtain ⟨ac, W, k, n, z, t, rfl, _⟩ := h
    rfl
  obtain ⟨ac, W, k, n, z, t, rfl, hW, hz, ht, q⟩ := h
  obtain ⟨dx, t0, t1, t2, t3, x0, x1, x2, x3, gw, _, _, p1, q1, p2, q2, p3, q3⟩ := hW.ex
  have l1 := paired_len q1
  have l3 := paired_len q3
  have hk : k < W.pass.length := (List.getElem?_eq_some_iff.mp hz).1
  have hj : z.sta < W.stas.length := (List.getElem?_eq_some_iff.mp ht).1
  obtain ⟨y, hy⟩ : ∃ x, x3[k]? = some x := ⟨_, List.getElem?_eq_getElem (by omega)⟩
  obtain ⟨z', hz', pb, pd, ts, rfl, c1, c2⟩ := paired_at q3 hy
  rw [hz] at hz'
  cases hz'
  obtain ⟨y1, hy1⟩ : ∃ x, x1[z.sta]? = some x := ⟨_, List.getElem?_eq_getElem (by omega)⟩
  obtain ⟨t', ht', ta, td, rfl, g1⟩ := paired_at q1 hy1
  rw [ht] at ht'
  cases ht'
  refine ⟨_, pss_cons (ps_set (i := 3) sc_has_antenna.nd rfl (Or.inl rfl) (pe_fld (pe_ix ix_tup (pe_fld (pv 0) rfl) (pv 1) (fun _ _ => rfl)) rfl))
  (pss_one (ps_ret (pe_chain op_le op_lt pe_int (pv 2) (pe_fld (pe_ix ix_tup (pe_fld (pv 0) rfl) (pv 3) (fun _ _ => rfl)) rfl))))
    , ?_⟩
  refine ⟨_, rfl, ac, CW, dx, _, _, rfl, gw, T.c_World.cl, T.n_World_passes, lk_World_passes, _, rfl, t3, x3, (k : Int), _, rfl, rfl, p3, atI_nat hy, pb, CP, pd, _, _, rfl, c1, T.c_Pass.cl, T.n_Pass_station, lk_Pass_station, ?_⟩
  refine ⟨_, rfl, _, _, rfl, rfl, _, rfl, ite2 (fun e1 => ?_) (fun e1 => ?_)⟩
  · refine ⟨_, rfl, ac, CW, dx, _, _, rfl, gw, T.c_World.cl, T.n_World_stations, lk_World_stations, _, rfl, t1, x1, (z.sta : Int), _, rfl, rfl, p1, atI_nat hy1, ta, CT, td, _, _, rfl, g1, T.c_Station.cl, T.n_Station_antennas, lk_Station_antennas, _, _, rfl, rfl, ?_⟩
    rw [show decide (0 ≤ n) = true from e1, Bool.true_and] at q
    exact q
  · rw [show decide (0 ≤ n) = false from Bool.eq_false_iff.mpr e1, Bool.false_and] at q
    exact q
def spFilled (K : PySem.W.Frag) : Sp := fun vs H Q _ => ∃ (v : V) (d : PyData), vs = [v] ∧ Dp K H v d ∧ SeqAt.shaped d = true ∧ Q (.bl (filB d)) H
theorem d_is_filled (B : Bt mg) (T : TxtO mg) (A : At K mg "is_filled" s_is_filled ["entry"]) : DefOk P w K mg base CX0 1 "is_filled" ["entry"] (spFilled K) := by
  refine A.ok sc_is_filled (fun vs H Q E h => ?_) (fun f cdv A outer s H vs Q E hr h => ?_)
  · obtain ⟨v, d, rfl, _⟩ := h
    rfl
  obtain ⟨v, d, rfl, hd, sd, q⟩ := h
  refine ⟨_, pss_one (ps_ret (pe_and (pe_cmpR op_notN (pv 0) pe_non (nomark _)) (pe_one (pe_cmpR (op_neD (hu64 hr)) (pv 0) (pe_gs T.g_OPEN) (nomark _)))))
    , ?_⟩
  refine ⟨_, rfl, rfl, _, rfl, ?_⟩
  have hd0 := hd
  cases hd with
  | non => exact iteF' rfl q
  | bl b => exact iteT' rfl ⟨_, rfl, _, _, hd0, .str _, sd, by decide +kernel, q⟩
  | int i => exact iteT' rfl ⟨_, rfl, _, _, hd0, .str _, sd, by decide +kernel, q⟩
  | str x => exact iteT' rfl ⟨_, rfl, _, _, hd0, .str _, sd, by decide +kernel, q⟩
  | lst h1 h2 => exact iteT' rfl ⟨_, rfl, _, _, hd0, .str _, sd, by decide +kernel, q⟩
  | tup h1 h2 => exact iteT' rfl ⟨_, rfl, _, _, hd0, .str _, sd, by decide +kernel, q⟩
end
end DP
namespace DP
open PySem PySem.Spec PyProof.Rows L2
abbrev s_busy_things : Stmt := topS 59
theorem sc_busy_things : FnScope ["world", "case", "number", "found", "r", "start", "_", "recording", "p", "chance"] ["world", "case", "number"] (defScope s_busy_things) := ⟨rfl, rfl, rfl, by decide +kernel, rfl, by decide +kernel, by decide +kernel⟩
abbrev s_energy_of : Stmt := topS 60
theorem sc_energy_of : FnScope ["world", "thing", "sort", "number"] ["world", "thing"] (defScope s_energy_of) := ⟨rfl, rfl, rfl, by decide +kernel, rfl, by decide +kernel, by decide +kernel⟩
abbrev s_spending : Stmt := topS 62
theorem sc_spending : FnScope ["world", "case", "number", "spent", "thing", "span", "first", "_"] ["world", "case", "number"] (defScope s_spending) := ⟨rfl, rfl, rfl, by decide +kernel, rfl, by decide +kernel, by decide +kernel⟩
def sortN (b : Bool) : Str := if b = true then Str.ofString "pass" else Str.ofString "recording"
/-- a thing: a pass or not, its number, its first minute, its end -/
abbrev Thing := Bool × Nat × Int × Int
def thgPy (k : Thing) : PyData := .tuple [.tuple [.str (sortN k.1), .int (k.2.1 : Int)], .tuple [.int k.2.2.1, .int k.2.2.2]]
theorem noL_thg (k : Thing) : noL (thgPy k) := by unfold thgPy; simp [noL, noLs]
def recThg (W : WorldD) (s : Nat) (q : Nat × Int × Int) : List Thing := match W.recs[q.1]? with
  | some z => if z.sat = s then [(false, q.1, q.2.1, q.2.1 + z.length)] else []
  | none => []
def pasThg (W : WorldD) (s : Nat) (p : Nat) : List Thing := match W.pass[p]? with
  | some z => if z.sat = s then [(true, p, z.first, z.fin)] else []
  | none => []
def busyL (W : WorldD) (c : CaseD) (s : Nat) : List Thing := (madeL W c W.recs.length).flatMap (recThg W s) ++ (takL W c W.pass.length).flatMap (pasThg W s)
theorem recThg_len (W : WorldD) (s : Nat) (q : Nat × Int × Int) : (recThg W s q).length ≤ 1 := by
  unfold recThg
  split
  · split <;> simp
  · exact Nat.zero_le _
theorem pasThg_len (W : WorldD) (s : Nat) (p : Nat) : (pasThg W s p).length ≤ 1 := by
  unfold pasThg
  split
  · split <;> simp
  · exact Nat.zero_le _
theorem flat_len1 {α β : Type} {g : α → List β} (h : ∀ a, (g a).length ≤ 1) : ∀ l : List α, (l.flatMap g).length ≤ l.length
  | [] => Nat.zero_le _
  | a :: l => by
    rw [List.flatMap_cons, List.length_append, List.length_cons]
    have := flat_len1 h l
    have := h a
    omega
theorem fm_take {α β : Type} {g : α → List β} {l : List α} {i : Nat} {a : α} (h : l[i]? = some a) : (l.take (i + 1)).flatMap g = (l.take i).flatMap g ++ g a := by
  rw [List.take_add_one, h, Option.toList_some, List.flatMap_append, List.flatMap_cons, List.flatMap_nil, List.append_nil]
def energyT (W : WorldD) (k : Thing) : Int := if k.1 = true then ((W.pass[k.2.1]?).map (·.energy)).getD 0 else ((W.recs[k.2.1]?).map (·.energy)).getD 0
/-- what some things spend at a minute -/
def spentL (W : WorldD) (l : List Thing) (m : Int) : Int := (l.map fun k => if k.2.2.1 = m then energyT W k else 0).sum
def spentW (W : WorldD) (c : CaseD) (s : Nat) (m : Int) : Int := spentL W (busyL W c s) m
/-- a dict of what is spent -/
structure SpK (kvs : List (Key × V)) (g : Int → Int) (h : Int) : Prop where
  keys : ∀ p ∈ kvs, ∃ m : Int, p.1 = Sum.inl m ∧ 0 ≤ m ∧ m < h
  non : ∀ m : Int, valV kvs (Sum.inl m) = none → g m = 0
  val : ∀ (m : Int) (v : V), valV kvs (Sum.inl m) = some v → v = .int (g m)
  nd : (kvs.map (·.1)).Nodup
theorem SpK.get {kvs : List (Key × V)} {g : Int → Int} {h : Int} (k : SpK kvs g h) (m : Int) : (valV kvs (Sum.inl m)).getD (.int 0) = .int (g m) := by
  cases e : valV kvs (Sum.inl m) with
  | none => rw [k.non m e]; rfl
  | some v => exact k.val m v e
theorem putK_keys {kvs : List (Key × V)} {k : Key} {v : V} {q : Key × V} (h : q ∈ putK kvs k v) : q.1 = k ∨ ∃ p ∈ kvs, p.1 = q.1 := by
  unfold putK at h
  split at h
  · obtain ⟨p, hp, e⟩ := List.mem_map.mp h
    split at e
    · rename_i c
      exact .inl (by rw [← e]; exact c)
    · exact .inr ⟨p, hp, by rw [e]⟩
  · rcases List.mem_append.mp h with h | h
    · exact .inr ⟨q, h, rfl⟩
    · exact .inl (by rw [List.mem_singleton.mp h])
theorem putK_len {kvs : List (Key × V)} {k : Key} {v : V} : (putK kvs k v).length ≤ kvs.length + 1 := by
  unfold putK
  split
  · rw [List.length_map]; omega
  · rw [List.length_append]; exact Nat.le_refl _
theorem putK_nodup {kvs : List (Key × V)} {k : Key} {v : V} (h : (kvs.map (·.1)).Nodup) : ((putK kvs k v).map (·.1)).Nodup := by
  unfold putK
  split
  · rw [List.map_map]
    have e : ((fun x : Key × V => x.1) ∘ fun kv : Key × V => if kv.1 = k then (kv.1, v) else kv) = fun x => x.1 := by
      funext x
      show (if x.1 = k then (x.1, v) else x).1 = x.1
      split <;> rfl
    rw [e]
    exact h
  · rename_i no
    rw [List.map_append, List.nodup_append]
    refine ⟨h, by simp, fun a ha b hb => ?_⟩
    obtain ⟨p, hp, rfl⟩ := List.mem_map.mp ha
    have eb : b = k := by simpa using hb
    intro e
    exact no (List.any_eq_true.mpr ⟨p, hp, decide_eq_true (e.trans eb)⟩)
theorem SpK.put {kvs : List (Key × V)} {g g' : Int → Int} {h f e : Int} (k : SpK kvs g h) (h0 : 0 ≤ f) (h1 : f < h) (hg : ∀ m, g' m = g m + if f = m then e else 0) : SpK (putK kvs (Sum.inl f) (.int (g f + e))) g' h := by
  refine ⟨fun p hp => ?_, fun m hm => ?_, fun m v hm => ?_, putK_nodup k.nd⟩
  · rcases putK_keys hp with e | ⟨q, hq, e⟩
    · exact ⟨f, e, h0, h1⟩
    · obtain ⟨m, e1, e2⟩ := k.keys q hq
      exact ⟨m, by rw [← e]; exact e1, e2⟩
  · rw [valV_put] at hm
    split at hm
    · cases hm
    · rename_i c
      rw [hg, if_neg (fun z => c (by rw [z])), k.non m hm, Int.add_zero]
  · rw [valV_put] at hm
    split at hm
    · rename_i c
      have ec : m = f := Sum.inl.inj c
      subst ec
      rw [hg, if_pos rfl]
      exact (Option.some.inj hm).symm
    · rename_i c
      rw [hg, if_neg (fun z => c (by rw [z])), Int.add_zero]
      exact k.val m v hm
theorem spentL_snoc (W : WorldD) (l : List Thing) (k : Thing) (m : Int) : spentL W (l ++ [k]) m = spentL W l m + if k.2.2.1 = m then energyT W k else 0 := by
  unfold spentL
  rw [List.map_append, List.sum_append]
  simp
theorem mem_busy {W : WorldD} {c : CaseD} {s : Nat} {k : Thing} (wok : WorldOk W) (h : k ∈ busyL W c s) : 0 ≤ k.2.2.1 ∧ k.2.2.1 < W.horizon ∧ k.2.2.1 < k.2.2.2 ∧ (if k.1 = true then ∃ z, W.pass[k.2.1]? = some z else ∃ z, W.recs[k.2.1]? = some z) := by
  unfold busyL at h
  rcases List.mem_append.mp h with h | h
  · obtain ⟨q, hq, h⟩ := List.mem_flatMap.mp h
    obtain ⟨_, z, y, hz, hy, h0, ho⟩ := mem_made hq
    unfold recThg at h
    rw [hz] at h
    dsimp only at h
    split at h
    · have e := List.mem_singleton.mp h
      subst e
      have ok := wok.recs z (List.mem_of_getElem? hz)
      have k1 := ok.earliest
      have k2 := ok.latest
      have k3 := ok.length
      unfold isOpt at ho
      obtain ⟨h1, h2⟩ := Bool.and_eq_true_iff.mp ho
      obtain ⟨h2, h3⟩ := Bool.and_eq_true_iff.mp h2
      have h1 := of_decide_eq_true h1
      have h2 := of_decide_eq_true h2
      refine ⟨by dsimp only; omega, by dsimp only; omega, by dsimp only; omega, ?_⟩
      rw [if_neg Bool.false_ne_true]
      exact ⟨z, hz⟩
    · exact absurd h List.not_mem_nil
  · obtain ⟨p, hp, h⟩ := List.mem_flatMap.mp h
    unfold pasThg at h
    split at h
    · rename_i z hz
      split at h
      · have e := List.mem_singleton.mp h
        subst e
        have ok := wok.pass z (List.mem_of_getElem? hz)
        have k1 := ok.first
        have k2 := ok.fin
        refine ⟨by dsimp only; omega, by dsimp only; omega, by dsimp only; omega, ?_⟩
        rw [if_pos rfl]
        exact ⟨z, hz⟩
      · exact absurd h List.not_mem_nil
    · exact absurd h List.not_mem_nil
theorem busy_len {W : WorldD} (wok : WorldOk W) (c : CaseD) (s : Nat) : (busyL W c s).length ≤ 20 := by
  unfold busyL
  rw [List.length_append]
  have h1 := flat_len1 (recThg_len W s) (madeL W c W.recs.length)
  have h2 := flat_len1 (pasThg_len W s) (takL W c W.pass.length)
  have h3 := madeL_len W c W.recs.length
  have h4 := takL_len W c W.pass.length
  have h5 := wok.nRecs
  have h6 := wok.nPass
  omega
section
variable {P : Program} {w : World} {K : PySem.W.Frag} {mg : Str → Option Value} {base : Heap} {CL CS CT CR CP CW aS aR fS fT fR fP : Addr}
def spMade (K : PySem.W.Frag) (CS CT CR CP CW : Addr) : Sp := fun vs H Q _ => ∃ (ac : Addr) (v : V) (W : WorldD) (o : Bool) (c : CaseD), vs = [.ref ac, v] ∧ WorldOk W ∧ WorldAt K CS CT CR CP CW H ac W ∧ CaseG W o c ∧ Dp K H v (casePy c) ∧ ∀ D H', Same H H' → H D = none → DL K tripPy H' D (madeL W c W.recs.length) → Q (.ref D) H'
set_option maxHeartbeats 4000000 in
theorem d_made (T : TxtW K mg CL CS CT CR CP CW aS aR fS fT fR fP) (D_is_filled : DefOk P w K mg base CX0 1 "is_filled" ["entry"] (spFilled K)) (D_is_option : DefOk P w K mg base CX0 1 "is_option" ["world", "number", "pair"] (spIsOption K CS CT CR CP CW))
    (A : At K mg "made_recordings" s_made_recordings ["world", "case"]) : DefOk P w K mg base CX0 2 "made_recordings" ["world", "case"] (spMade K CS CT CR CP CW) := by
  have B := T.L.B
  refine A.ok sc_made_recordings (fun vs H Q E h => ?_) (fun f cdv A outer s H vs Q E hr h => ?_)
  · obtain ⟨ac, v, W, o, c, rfl, _⟩ := h
    rfl
  obtain ⟨ac, v, W, o, c, rfl, wok, hW, cg, hc, q⟩ := h
  obtain ⟨t, tm, tt, xm, xt, rfl, ht, hm, htt, hxm, hxt, lm, lt⟩ := case_two hc
  have nM := cg.nM
  have nR := wok.nRecs
  refine ⟨_, pss_cons (ps_set (i := 2) sc_made_recordings.nd rfl (Or.inl rfl) (pe_lst pa_nil))
  (pss_cons (ps_for PassesOwn.never rfl (pi_enumT (by rfl) B.enumerate (pa_cons (pe_ix ix_tup (pv 1) pe_int (fun _ _ => rfl)) pa_nil)) (pg_tup (by rfl) (pgs_cons (pg_name (i := 3) sc_made_recordings.nd rfl (Or.inl rfl)) (pgs_cons (pg_name (i := 4) sc_made_recordings.nd rfl (Or.inl rfl)) (pgs_nil))))
      (pss_one (ps_if (PW.pt (pw_and (pt_val (pe_f D_is_filled (hr.mono (by omega)) pass0 (pa_cons (pv 4) pa_nil))) (pw_and1 (pt_val (pe_f D_is_option (hr.mono (by omega)) pass0 (pa_cons (pv 0) (pa_cons (pv 3) (pa_cons (pv 4) pa_nil))))))))
          (pss_cons (ps_asg (pv 4) (pg_tup (by rfl) (pgs_cons (pg_name (i := 5) sc_made_recordings.nd rfl (Or.inl rfl)) (pgs_cons (pg_name (i := 6) sc_made_recordings.nd rfl (Or.inl rfl)) (pgs_nil)))))
          (pss_one (ps_expr (pe_bm PySem.F.plainAttrs_list PySem.F.slot_list_append PySem.F.type_list_append mt_append (pv 2) (pa_cons (pe_tup (pa_cons (pv 3) (pa_cons (pv 5) (pa_cons (pv 6) pa_nil)))) pa_nil)))))
          (pss_nil))))
  (pss_one (ps_ret (pv 2))))
    , ?_⟩
  refine ⟨Nat.zero_le _, fun D hD => ?_⟩
  have sD := same_new hD (.lst [])
  refine ⟨_, rfl, t, _, 0, _, rfl, rfl, Same.tup sD ht, rfl, tm, xm, rfl, Same.tup sD hm, ?_⟩
  refine for_it (walk_enumT (xs := xm)) (fun i σ H' => ∃ y3 y4 y5 y6, σ = [some (.ref ac), some (.ref t), some (.ref D), y3, y4, y5, y6] ∧ Same H H' ∧ DL K tripPy H' D (madeL W c i)) ⟨none, none, none, none, rfl, sD, DL.nil⟩ (fun i σ H' _ hI => ?_) (fun i v σ H1 H2 hi hI hy => ?_) (fun σ H1 hI => ?_)
  · obtain ⟨y3, y4, y5, y6, rfl, hs, _⟩ := hI
    exact Same.tup hs hm
  · obtain ⟨y3, y4, y5, y6, rfl, hs, hd⟩ := hI
    obtain ⟨tp, v, rfl, htp, rfl, hv⟩ := hy
    obtain ⟨e, he, hde⟩ := dpAll_get hxm hv
    obtain ⟨z, hz⟩ : ∃ z, W.recs[i]? = some z := ⟨_, List.getElem?_eq_getElem (by omega)⟩
    have sT := same_new htp (.tup [.int (0 + (i : Nat)), v])
    have sA := hs.trans sT
    have hdA := hd.same sT
    have hde := dp_same sA hde
    have eok := cg.mOk e (List.mem_of_getElem? he)
    have ll := madeL_len W c i
    have ms := madeL_succ W c i
    have ma : madeAt W c i = match W.recs[i]?, c.made[i]? with | some z, some (.at_ s p) => if optB W z s p = true then [(i, s, p)] else [] | _, _ => [] := rfl
    rw [hz, he] at ma
    refine ⟨tp, _, rfl, SqT.of upd_same, rfl, _, _, rfl, _, _, rfl, rfl, _, rfl, v, entM e, rfl, hde, lay_entM e, _, rfl, ?_⟩
    generalize (upd H1 tp (.tup [.int (0 + (i : Nat)), v])) = H3 at sA hdA hde
    cases e with
    | non =>
      refine iteF' rfl ⟨_, _, _, _, rfl, sA, ?_⟩
      rw [ms, ma]
      exact (List.append_nil _).symm ▸ hdA
    | opn =>
      refine iteF' rfl ⟨_, _, _, _, rfl, sA, ?_⟩
      rw [ms, ma]
      exact (List.append_nil _).symm ▸ hdA
    | at_ st p =>
      obtain ⟨h0, h1, h2, h3⟩ := eok
      obtain ⟨k, rfl⟩ : ∃ k : Nat, p = (k : Int) := ⟨p.toNat, by omega⟩
      obtain ⟨y, hy⟩ : ∃ y, W.pass[k]? = some y := ⟨_, List.getElem?_eq_getElem (by omega)⟩
      obtain ⟨te, xe, rfl, hte, hxe⟩ := dp_tup hde
      have ex := dp_ints (ns := [st, (k : Int)]) hxe
      subst ex
      have eo : optB W z st (k : Int) = isOpt z st y := by
        unfold optB
        rw [Int.toNat_natCast, hy]
        dsimp only
        rw [decide_eq_true (Int.natCast_nonneg k), Bool.true_and]
      rw [show (match some z, some (EntM.at_ st (k : Int)) with | some z, some (.at_ s p) => if optB W z s p = true then [(i, s, p)] else [] | _, _ => []) = if optB W z st (k : Int) = true then [(i, st, (k : Int))] else [] from rfl, eo] at ma
      refine iteT' rfl ⟨_, rfl, _, rfl, _, rfl, ac, te, W, i, k, z, y, st, by rw [Int.zero_add]; rfl, hW.same sA, hz, hy, hte, _, rfl, ite2 (fun k1 => ?_) (fun k1 => ?_)⟩
      · refine ⟨_, rfl, te, _, rfl, hte, rfl, _, _, rfl, _, _, rfl, rfl, ?_⟩
        obtain ⟨xs0, hx0, _⟩ := id hdA
        refine ⟨_, rfl, .inl ⟨rfl, _, SqL.of hx0⟩, _, rfl, _, rfl, _, rfl, (by show 3 ≤ sizeLine; decide), fun t3 ht3 => ?_⟩
        have sB := same_new ht3 (.tup [.int (0 + (i : Nat)), .int st, .int (k : Int)])
        have tv : Dp K (upd H3 t3 (.tup [.int (0 + (i : Nat)), .int st, .int (k : Int)])) (.ref t3) (tripPy (i, st, (k : Int))) := .tup (SqT.of (by rw [upd_same, Int.zero_add])) (.cons (.int _) (.cons (.int _) (.cons (.int _) .nil)))
        obtain ⟨xs, g1, g2, g3⟩ := (hdA.same sB).push noL_trip tv (by omega)
        refine ⟨D, xs, _, rfl, rfl, g1, g2, _, _, _, _, rfl, same_at hD (sA.trans sB) _, ?_⟩
        rw [ms, ma, if_pos k1]
        exact g3
      · refine ⟨_, _, _, _, rfl, sA, ?_⟩
        rw [ms, ma, if_neg k1]
        exact (List.append_nil _).symm ▸ hdA
  · obtain ⟨y3, y4, y5, y6, rfl, hs, hd⟩ := hI
    rw [lm, nM] at hd
    exact ⟨_, rfl, q D _ hs hD hd⟩
def spTaken (K : PySem.W.Frag) (CS CT CR CP CW : Addr) : Sp := fun vs H Q _ => ∃ (ac : Addr) (v : V) (W : WorldD) (o : Bool) (c : CaseD), vs = [.ref ac, v] ∧ WorldOk W ∧ WorldAt K CS CT CR CP CW H ac W ∧ CaseG W o c ∧ Dp K H v (casePy c) ∧ ∀ D H', Same H H' → H D = none → H' D = some (.lst ((takL W c W.pass.length).map fun (p : Nat) => V.int (p : Int))) → Q (.ref D) H'
set_option maxHeartbeats 4000000 in
theorem d_taken (T : TxtW K mg CL CS CT CR CP CW aS aR fS fT fR fP) (D_is_filled : DefOk P w K mg base CX0 1 "is_filled" ["entry"] (spFilled K)) (D_has_antenna : DefOk P w K mg base CX0 1 "has_antenna" ["world", "p", "antenna"] (spHasAnt K CS CT CR CP CW))
    (A : At K mg "taken_passes" s_taken_passes ["world", "case"]) : DefOk P w K mg base CX0 2 "taken_passes" ["world", "case"] (spTaken K CS CT CR CP CW) := by
  have B := T.L.B
  refine A.ok sc_taken_passes (fun vs H Q E h => ?_) (fun f cdv A outer s H vs Q E hr h => ?_)
  · obtain ⟨ac, v, W, o, c, rfl, _⟩ := h
    rfl
  obtain ⟨ac, v, W, o, c, rfl, wok, hW, cg, hc, q⟩ := h
  obtain ⟨t, tm, tt, xm, xt, rfl, ht, hm, htt, hxm, hxt, lm, lt⟩ := case_two hc
  have nT := cg.nT
  have nP := wok.nPass
  refine ⟨_, pss_one (ps_ret (pe_lc (own := [("p", 2), ("entry", 3)])  rfl sc_taken_passes.nd (pi_enumT (by rfl) B.enumerate (pa_cons (pe_ix ix_tup (pv 1) pe_int (fun _ _ => rfl)) pa_nil)) (blkOk_by (own := [("p", 2), ("entry", 3)]) (N := ["world", "case", "p", "entry"]) (sc := defScope s_taken_passes) (by decide +kernel)) (fun _ _ _ _ _ => pg_tupK (K := K) (n := 2) rfl (by rfl) (pgs_cons (pg_name (i := 2) sc_taken_passes.nd rfl (Or.inl rfl)) (pgs_cons (pg_name (i := 3) sc_taken_passes.nd rfl (Or.inl rfl)) (pgs_nil)))) (fun _ _ _ _ _ => pts_one (PW.pt (pw_and (pt_val (pe_f D_is_filled (hr.mono (by omega)) pass0 (pa_cons (pv 3) pa_nil))) (pw_and1 (pt_val (pe_f D_has_antenna (hr.mono (by omega)) pass0 (pa_cons (pv 0) (pa_cons (pv 2) (pa_cons (pv 3) pa_nil))))))))) (fun _ _ _ _ _ => (pv 2))))
    , ?_⟩
  refine ⟨_, rfl, t, _, 1, _, rfl, rfl, ht, rfl, tt, xt, rfl, htt, fun D hD => lc_it (walk_enumT (K := K) (a := tt) (k := 0) (xs := xt)) (fun i H' => Same H H' ∧ H' D = some (.lst ((takL W c i).map fun (p : Nat) => V.int (p : Int)))) ⟨same_new hD _, upd_same⟩ (fun i H' _ hI => Same.tup hI.1 htt) (fun i x H1 H2 hi hI hy => ?_) (fun H1 hI => ?_)⟩
  · obtain ⟨hs, hd⟩ := hI
    obtain ⟨tp, v, rfl, htp, rfl, hv⟩ := hy
    obtain ⟨e, he, hde⟩ := dpAll_get hxt hv
    obtain ⟨z, hz⟩ : ∃ z, W.pass[i]? = some z := ⟨_, List.getElem?_eq_getElem (by omega)⟩
    have zok := wok.pass z (List.mem_of_getElem? hz)
    obtain ⟨st, hst⟩ : ∃ st, W.stas[z.sta]? = some st := ⟨_, List.getElem?_eq_getElem zok.sta⟩
    have sT := same_new htp (.tup [.int (0 + (i : Nat)), v])
    have sA := hs.trans sT
    have hdA := sT _ _ hd
    have hde := dp_same sA hde
    have ll := takL_len W c i
    have ts := takL_succ W c i
    have an : antB W c i = match W.pass[i]?, c.taken[i]? with | some z, some (.ant n) => (match W.stas[z.sta]? with | some t => decide (0 ≤ n) && decide (n < t.antennas) | none => false) | _, _ => false := rfl
    rw [hz, he] at an
    refine ⟨tp, _, rfl, SqT.of upd_same, rfl, _, _, rfl, _, _, rfl, rfl, rfl, _, rfl, v, entT e, rfl, hde, lay_entT e, _, rfl, ?_⟩
    generalize (upd H1 tp (.tup [.int (0 + (i : Nat)), v])) = H3 at sA hdA hde
    cases e with
    | non =>
      refine iteF' rfl ⟨sA, ?_⟩
      rw [ts, show antB W c i = false from an, if_neg Bool.false_ne_true, List.append_nil]
      exact hdA
    | opn =>
      refine iteF' rfl ⟨sA, ?_⟩
      rw [ts, show antB W c i = false from an, if_neg Bool.false_ne_true, List.append_nil]
      exact hdA
    | ant n =>
      cases hde
      have an2 : antB W c i = (decide (0 ≤ n) && decide (n < st.antennas)) := by
        rw [an]
        dsimp only
        rw [hst]
      refine iteT' rfl ⟨_, rfl, _, rfl, _, rfl, ac, W, i, n, z, st, by rw [Int.zero_add]; rfl, hW.same sA, hz, hst, _, rfl, ?_⟩
      rw [← an2]
      refine ite2 (fun k1 => ?_) (fun k1 => ?_)
      · refine ⟨_, rfl, _, hdA, by rw [List.length_map]; exact small1000 (by omega), same_at hD sA _, ?_⟩
        rw [upd_same, ts, if_pos k1, List.map_append, Int.zero_add]
        rfl
      · refine ⟨sA, ?_⟩
        rw [ts, if_neg k1, List.append_nil]
        exact hdA
  · obtain ⟨hs, hd⟩ := hI
    rw [lt, nT] at hd
    exact q D _ hs hD hd
end
end DP
namespace DP
open PySem PySem.Spec PyProof.Rows L2
theorem dp_thg {K : PySem.W.Frag} {H : Hp} {v : V} {k : Thing} (h : Dp K H v (thgPy k)) : ∃ t t1 t2, v = .ref t ∧ SqT K H t [.ref t1, .ref t2] ∧ SqT K H t1 [.str (sortN k.1), .int (k.2.1 : Int)] ∧ SqT K H t2 [.int k.2.2.1, .int k.2.2.2] := by
  obtain ⟨t, xs, rfl, ht, hx⟩ := dp_tup h
  cases hx with
  | cons a0 hx =>
  cases hx with
  | cons a1 hx =>
  cases hx
  obtain ⟨t1, x1, rfl, h1, g1⟩ := dp_tup a0
  obtain ⟨t2, x2, rfl, h2, g2⟩ := dp_tup a1
  have e2 := dp_ints (ns := [k.2.2.1, k.2.2.2]) g2
  subst e2
  cases g1 with
  | cons b0 g1 =>
  cases g1 with
  | cons b1 g1 =>
  cases g1
  cases b0
  cases b1
  exact ⟨t, t1, t2, rfl, ht, h1, h2⟩
theorem dp_trip {K : PySem.W.Frag} {H : Hp} {v : V} {q : Nat × Int × Int} (h : Dp K H v (tripPy q)) : ∃ t, v = .ref t ∧ SqT K H t [.int (q.1 : Int), .int q.2.1, .int q.2.2] := by
  obtain ⟨t, xs, rfl, ht, hx⟩ := dp_tup h
  have ex := dp_ints (ns := [(q.1 : Int), q.2.1, q.2.2]) hx
  subst ex
  exact ⟨t, rfl, ht⟩
theorem sqT_sx {K : PySem.W.Frag} {H H' : Hp} {D b : Addr} {xs ys : List V} (hD : H D = some (.lst ys)) (s : SameX D H H') (h : SqT K H b xs) : SqT K H' b xs := by
  rcases h with (h | ⟨o, h⟩) | h
  · exact .inl (.inl (s _ _ (fun z => by rw [z, hD] at h; cases h) h))
  · exact .inl (.inr ⟨o, s _ _ (fun z => by rw [z, hD] at h; cases h) h⟩)
  · exact .inr h
theorem dpAll_sx {K : PySem.W.Frag} {H H' : Hp} {D : Addr} {xs ys : List V} {ds : List PyData} (n : noLs ds) (hD : H D = some (.lst ys)) (s : SameX D H H') (h : DpAll K H xs ds) : DpAll K H' xs ds := dpTs_map (fun _ _ z => sqT_sx hD s z) n h
theorem sqT_sxd {K : PySem.W.Frag} {H H' : Hp} {D b : Addr} {xs : List V} {ys : List (Key × V)} (hD : H D = some (.dK ys)) (s : SameX D H H') (h : SqT K H b xs) : SqT K H' b xs := by
  rcases h with (h | ⟨o, h⟩) | h
  · exact .inl (.inl (s _ _ (fun z => by rw [z, hD] at h; cases h) h))
  · exact .inl (.inr ⟨o, s _ _ (fun z => by rw [z, hD] at h; cases h) h⟩)
  · exact .inr h
theorem dpAll_sxd {K : PySem.W.Frag} {H H' : Hp} {D : Addr} {xs : List V} {ys : List (Key × V)} {ds : List PyData} (n : noLs ds) (hD : H D = some (.dK ys)) (s : SameX D H H') (h : DpAll K H xs ds) : DpAll K H' xs ds := dpTs_map (fun _ _ z => sqT_sxd hD s z) n h
theorem sx_same {H H1 H' : Hp} {D : Addr} (s : Same H H1) (hD : H D = none) (x : SameX D H1 H') : Same H H' := fun b o h => x b o (ne_of_none h hD) (s b o h)
section
variable {P : Program} {w : World} {K : PySem.W.Frag} {mg : Str → Option Value} {base : Heap} {CL CS CT CR CP CW aS aR fS fT fR fP : Addr}
theorem rec_at {CR : Addr} {H : Hp} {x2 : List V} {l : List RecD} (q2 : Paired (RecAt CR H) x2 l) {i : Nat} {z : RecD} (hz : l[i]? = some z) : ∃ ob od, x2[i]? = some (.ref ob) ∧ H ob = some (.ins CR od (recF z)) := by
  have l2 := paired_len q2
  obtain ⟨x, hx⟩ : ∃ x, x2[i]? = some x := ⟨_, List.getElem?_eq_getElem (by have := (List.getElem?_eq_some_iff.mp hz).1; omega)⟩
  obtain ⟨z', hz', ob, od, rfl, o1⟩ := paired_at q2 hx
  rw [hz] at hz'
  cases hz'
  exact ⟨ob, od, hx, o1⟩
theorem pas_at {K : PySem.W.Frag} {CP : Addr} {H : Hp} {x3 : List V} {l : List PasD} (q3 : Paired (PasAt K CP H) x3 l) {i : Nat} {z : PasD} (hz : l[i]? = some z) : ∃ pb pd ts, x3[i]? = some (.ref pb) ∧ H pb = some (.ins CP pd (pasF z ts)) ∧ SqT K H ts [.int z.first, .int z.fin] := by
  have l2 := paired_len q3
  obtain ⟨x, hx⟩ : ∃ x, x3[i]? = some x := ⟨_, List.getElem?_eq_getElem (by have := (List.getElem?_eq_some_iff.mp hz).1; omega)⟩
  obtain ⟨z', hz', pb, pd, ts, rfl, c1, c2⟩ := paired_at q3 hx
  rw [hz] at hz'
  cases hz'
  exact ⟨pb, pd, ts, hx, c1, c2⟩
def spBusy (K : PySem.W.Frag) (CS CT CR CP CW : Addr) : Sp := fun vs H Q _ => ∃ (ac : Addr) (v : V) (W : WorldD) (o : Bool) (c : CaseD) (s : Nat), vs = [.ref ac, v, .int (s : Int)] ∧ WorldOk W ∧ WorldAt K CS CT CR CP CW H ac W ∧ CaseG W o c ∧ Dp K H v (casePy c) ∧ ∀ D H', Same H H' → H D = none → DL K thgPy H' D (busyL W c s) → Q (.ref D) H'
set_option maxHeartbeats 4000000 in
theorem d_busy (T : TxtW K mg CL CS CT CR CP CW aS aR fS fT fR fP) (D_made_recordings : DefOk P w K mg base CX0 2 "made_recordings" ["world", "case"] (spMade K CS CT CR CP CW)) (D_taken_passes : DefOk P w K mg base CX0 2 "taken_passes" ["world", "case"] (spTaken K CS CT CR CP CW))
    (A : At K mg "busy_things" s_busy_things ["world", "case", "number"]) : DefOk P w K mg base CX0 3 "busy_things" ["world", "case", "number"] (spBusy K CS CT CR CP CW) := by
  have B := T.L.B
  refine A.ok sc_busy_things (fun vs H Q E h => ?_) (fun f cdv A outer s H vs Q E hr h => ?_)
  · obtain ⟨ac, v, W, o, c, n, rfl, _⟩ := h
    rfl
  obtain ⟨ac, v, W, o, c, n, rfl, wok, hW, cg, hc, q⟩ := h
  have hW0 := hW
  obtain ⟨dx, t0, t1, t2, t3, x0, x1, x2, x3, gw, _, _, _, _, p2, q2, p3, q3⟩ := hW.ex
  have nR := wok.nRecs
  have nP := wok.nPass
  refine ⟨_, pss_cons (ps_set (i := 3) sc_busy_things.nd rfl (Or.inl rfl) (pe_lst pa_nil))
  (pss_cons (ps_for PassesOwn.never rfl (pi_list (pe_f D_made_recordings (hr.mono (by omega)) pass0 (pa_cons (pv 0) (pa_cons (pv 1) pa_nil)))) (pg_tup (by rfl) (pgs_cons (pg_name (i := 4) sc_busy_things.nd rfl (Or.inl rfl)) (pgs_cons (pg_name (i := 5) sc_busy_things.nd rfl (Or.inl rfl)) (pgs_cons (pg_name (i := 6) sc_busy_things.nd rfl (Or.inl rfl)) (pgs_nil)))))
      (pss_cons (ps_set (i := 7) sc_busy_things.nd rfl (Or.inl rfl) (pe_ix ix_tup (pe_fld (pv 0) rfl) (pv 4) (fun _ _ => rfl)))
      (pss_one (ps_if (pt_cmpR op_eq (pe_fld (pv 7) rfl) (pv 2) (nomark _))
          (pss_one (ps_expr (pe_bm PySem.F.plainAttrs_list PySem.F.slot_list_append PySem.F.type_list_append mt_append (pv 3) (pa_cons (pe_tup (pa_cons (pe_tup (pa_cons pe_str (pa_cons (pv 4) pa_nil))) (pa_cons (pe_tup (pa_cons (pv 5) (pa_cons (pe_op op_add (pv 5) (pe_fld (pv 7) rfl)) pa_nil))) pa_nil))) pa_nil))))
          (pss_nil)))))
  (pss_cons (ps_for PassesOwn.never rfl (pi_list (pe_f D_taken_passes (hr.mono (by omega)) pass0 (pa_cons (pv 0) (pa_cons (pv 1) pa_nil)))) (pg_name (i := 8) sc_busy_things.nd rfl (Or.inl rfl))
      (pss_cons (ps_set (i := 9) sc_busy_things.nd rfl (Or.inl rfl) (pe_ix ix_tup (pe_fld (pv 0) rfl) (pv 8) (fun _ _ => rfl)))
      (pss_one (ps_if (pt_cmpR op_eq (pe_fld (pv 9) rfl) (pv 2) (nomark _))
          (pss_one (ps_expr (pe_bm PySem.F.plainAttrs_list PySem.F.slot_list_append PySem.F.type_list_append mt_append (pv 3) (pa_cons (pe_tup (pa_cons (pe_tup (pa_cons pe_str (pa_cons (pv 8) pa_nil))) (pa_cons (pe_fld (pv 9) rfl) pa_nil))) pa_nil))))
          (pss_nil)))))
  (pss_one (ps_ret (pv 3)))))
    , ?_⟩
  refine ⟨Nat.zero_le _, fun D hD => ?_⟩
  have sD := same_new hD (.lst [])
  refine ⟨_, rfl, _, rfl, ac, v, W, o, c, rfl, wok, hW.same sD, cg, dp_same sD hc, fun M H1 s1 nM hM => ?_⟩
  have ml := madeL_len W c W.recs.length
  have hD1 := s1 _ _ (show (upd H D (.lst [])) D = some (.lst []) from upd_same)
  obtain ⟨xm, hM1, hM2⟩ := hM
  have lM := dpAll_len hM2
  rw [List.length_map] at lM
  refine ⟨M, rfl, ⟨_, SqL.of hM1⟩, ?_⟩
  have nDM : M ≠ D := fun z => by rw [z, upd_same] at nM; cases nM
  refine for_it (walk_list (K := K) (a := M) (xs := xm)) (fun i σ H' => ∃ y4 y5 y6 y7, σ = [some (.ref ac), some v, some (.int (n : Int)), some (.ref D), y4, y5, y6, y7, none, none] ∧ SameX D H1 H' ∧ DL K thgPy H' D (((madeL W c W.recs.length).take i).flatMap (recThg W n))) ⟨none, none, none, none, rfl, SameX.refl _ _, [], hD1, .nil⟩ (fun i σ H' _ hI => ?_) (fun i v' σ H2 H3 hi hI hy => ?_) (fun σ H2 hI => ?_)
  · obtain ⟨y4, y5, y6, y7, rfl, hs, _⟩ := hI
    exact SqL.of (hs _ _ nDM hM1)
  · obtain ⟨y4, y5, y6, y7, rfl, hs, hd⟩ := hI
    obtain ⟨rfl, hx⟩ := hy
    obtain ⟨q1, hq1, dq1⟩ := dpAll_get (dpAll_sx (noLs_map noL_trip _) hD1 hs hM2) hx
    obtain ⟨r0, z, y, hz, hy2, p0, ho⟩ := mem_made (List.mem_of_getElem? hq1)
    obtain ⟨tt, rfl, htt⟩ := dp_trip dq1
    have hsH := sx_same (sD.trans s1) hD hs
    obtain ⟨ob, od, hob, o1⟩ := rec_at q2 hz
    have ft := fm_take (g := recThg W n) hq1
    have fl := flat_len1 (recThg_len W n) ((madeL W c W.recs.length).take i)
    rw [List.length_take] at fl
    have rt : recThg W n q1 = if z.sat = n then [(false, q1.1, q1.2.1, q1.2.1 + z.length)] else [] := by
      unfold recThg
      rw [hz]
    refine ⟨tt, _, rfl, htt, rfl, _, _, rfl, _, _, rfl, _, _, rfl, rfl, ?_⟩
    refine ⟨_, rfl, ac, CW, dx, _, _, rfl, hsH _ _ gw, T.c_World.cl, T.n_World_recordings, lk_World_recordings, _, rfl, t2, x2, (q1.1 : Int), _, rfl, rfl, Same.tup hsH p2, atI_nat hob, ?_⟩
    refine ⟨_, rfl, ob, CR, od, _, _, rfl, hsH _ _ o1, T.c_Recording.cl, T.n_Recording_satellite, lk_Recording_satellite, _, rfl, rfl, _, rfl, ite2 (fun k1 => ?_) (fun k1 => ?_)⟩
    · have es : z.sat = n := by
        have := V.int.inj (of_decide_eq_true k1)
        omega
      obtain ⟨xs0, hx0, _⟩ := id hd
      refine ⟨_, rfl, .inl ⟨rfl, _, SqL.of hx0⟩, _, rfl, sz2_, fun a1 h1 => ⟨_, rfl, _, rfl, _, rfl, ob, CR, od, _, _, rfl, (hsH.trans (same_new h1 _)) _ _ o1, T.c_Recording.cl, T.n_Recording_length, lk_Recording_length, _, _, rfl, rfl, sz2_, fun a2 h2 => ⟨sz2_, fun a3 h3 => ?_⟩⟩⟩
      have b1 := same_new h1 (.tup [.str "recording", .int (q1.1 : Int)])
      have b2 := same_new h2 (.tup [.int q1.2.1, .int (q1.2.1 + z.length)])
      have b3 := same_new h3 (.tup [.ref a1, .ref a2])
      have b123 := b1.trans (b2.trans b3)
      have tv : Dp K (upd (upd (upd H3 a1 (.tup [.str "recording", .int (q1.1 : Int)])) a2 (.tup [.int q1.2.1, .int (q1.2.1 + z.length)])) a3 (.tup [.ref a1, .ref a2])) (.ref a3) (thgPy (false, q1.1, q1.2.1, q1.2.1 + z.length)) :=
        .tup (SqT.of upd_same) (.cons (.tup (SqT.of ((b2.trans b3) _ _ upd_same)) (.cons (.str _) (.cons (.int _) .nil))) (.cons (.tup (SqT.of (b3 _ _ upd_same)) (.cons (.int _) (.cons (.int _) .nil))) .nil))
      obtain ⟨xs, g1, g2, g3⟩ := (hd.same b123).push noL_thg tv (by omega)
      refine ⟨D, xs, _, rfl, rfl, g1, g2, _, _, _, _, rfl, (hs.trans (SameX.of b123)).at_, ?_⟩
      rw [ft, rt, if_pos es]
      exact g3
    · refine ⟨_, _, _, _, rfl, hs, ?_⟩
      rw [ft, rt, if_neg (fun e => k1 (decide_eq_true (by rw [e]))), List.append_nil]
      exact hd
  · obtain ⟨y4, y5, y6, y7, rfl, hs, hd⟩ := hI
    rw [lM, List.take_length] at hd
    have hsH := sx_same (sD.trans s1) hD hs
    refine ⟨_, rfl, _, rfl, ac, v, W, o, c, rfl, wok, hW.same hsH, cg, dp_same hsH hc, fun N H3 s3 nN hN => ?_⟩
    have hd3 := hd.same s3
    obtain ⟨ys3, hD3, _⟩ := id hd3
    have nDN : N ≠ D := fun z => by
      obtain ⟨ys2, hD2, _⟩ := id hd
      rw [z, hD2] at nN
      cases nN
    have tl := takL_len W c W.pass.length
    have hs3 := hsH.trans s3
    have f0 := flat_len1 (recThg_len W n) (madeL W c W.recs.length)
    refine ⟨N, rfl, ⟨_, SqL.of hN⟩, ?_⟩
    refine for_it (walk_list (K := K) (a := N) (xs := (takL W c W.pass.length).map fun (p : Nat) => V.int (p : Int))) (fun i σ H' => ∃ y8 y9, σ = [some (.ref ac), some v, some (.int (n : Int)), some (.ref D), y4, y5, y6, y7, y8, y9] ∧ SameX D H3 H' ∧ DL K thgPy H' D ((madeL W c W.recs.length).flatMap (recThg W n) ++ ((takL W c W.pass.length).take i).flatMap (pasThg W n))) ⟨none, none, rfl, SameX.refl _ _, (by show DL K thgPy H3 D (_ ++ []); rw [List.append_nil]; exact hd3)⟩ (fun i σ H' _ hI => ?_) (fun i v' σ H4 H5 hi hI hy => ?_) (fun σ H4 hI => ?_)
    · obtain ⟨y8, y9, rfl, hx, _⟩ := hI
      exact SqL.of (hx _ _ nDN hN)
    · obtain ⟨y8, y9, rfl, hx, hd⟩ := hI
      obtain ⟨rfl, hy⟩ := hy
      rw [List.getElem?_map] at hy
      cases hp : (takL W c W.pass.length)[i]? with
      | none => rw [hp] at hy; cases hy
      | some p =>
        rw [hp] at hy
        have ev : V.int (p : Int) = v' := Option.some.inj hy
        subst ev
        have hlt := (mem_tak (List.mem_of_getElem? hp)).1
        obtain ⟨z, hz⟩ : ∃ z, W.pass[p]? = some z := ⟨_, List.getElem?_eq_getElem hlt⟩
        have hsA := sx_same hs3 hD hx
        obtain ⟨pb, pd, ts, hpb, c1, c2⟩ := pas_at q3 hz
        have ft := fm_take (g := pasThg W n) hp
        have fl := flat_len1 (pasThg_len W n) ((takL W c W.pass.length).take i)
        rw [List.length_take] at fl
        have rt : pasThg W n p = if z.sat = n then [(true, p, z.first, z.fin)] else [] := by
          unfold pasThg
          rw [hz]
        refine ⟨_, rfl, ac, CW, dx, _, _, rfl, hsA _ _ gw, T.c_World.cl, T.n_World_passes, lk_World_passes, _, rfl, t3, x3, (p : Int), _, rfl, rfl, Same.tup hsA p3, atI_nat hpb, ?_⟩
        refine ⟨_, rfl, pb, CP, pd, _, _, rfl, hsA _ _ c1, T.c_Pass.cl, T.n_Pass_satellite, lk_Pass_satellite, _, rfl, rfl, _, rfl, ite2 (fun k1 => ?_) (fun k1 => ?_)⟩
        · have es : z.sat = n := by
            have := V.int.inj (of_decide_eq_true k1)
            omega
          obtain ⟨xs0, hx0, _⟩ := id hd
          refine ⟨_, rfl, .inl ⟨rfl, _, SqL.of hx0⟩, _, rfl, sz2_, fun a1 h1 => ⟨_, rfl, pb, CP, pd, _, _, rfl, (hsA.trans (same_new h1 _)) _ _ c1, T.c_Pass.cl, T.n_Pass_span, lk_Pass_span, sz2_, fun a3 h3 => ?_⟩⟩
          have b1 := same_new h1 (.tup [.str "pass", .int (p : Int)])
          have b3 := same_new h3 (.tup [.ref a1, .ref ts])
          have b13 := b1.trans b3
          have tv : Dp K (upd (upd H5 a1 (.tup [.str "pass", .int (p : Int)])) a3 (.tup [.ref a1, .ref ts])) (.ref a3) (thgPy (true, p, z.first, z.fin)) :=
            .tup (SqT.of upd_same) (.cons (.tup (SqT.of (b3 _ _ upd_same)) (.cons (.str _) (.cons (.int _) .nil))) (.cons (.tup (Same.tup (hsA.trans b13) c2) (.cons (.int _) (.cons (.int _) .nil))) .nil))
          obtain ⟨xs, g1, g2, g3⟩ := (hd.same b13).push noL_thg tv (by rw [List.length_append]; omega)
          refine ⟨D, xs, _, rfl, rfl, g1, g2, _, _, rfl, (hx.trans (SameX.of b13)).at_, ?_⟩
          rw [ft, rt, if_pos es, ← List.append_assoc]
          exact g3
        · refine ⟨_, _, rfl, hx, ?_⟩
          rw [ft, rt, if_neg (fun e => k1 (decide_eq_true (by rw [e]))), List.append_nil]
          exact hd
    · obtain ⟨y8, y9, rfl, hx, hd⟩ := hI
      rw [List.length_map, List.take_length] at hd
      exact ⟨_, rfl, q D _ (sx_same hs3 hD hx) hD hd⟩
def spEnergy (K : PySem.W.Frag) (CS CT CR CP CW : Addr) : Sp := fun vs H Q _ => ∃ (ac t : Addr) (W : WorldD) (k : Thing), vs = [.ref ac, .ref t] ∧ WorldAt K CS CT CR CP CW H ac W ∧ SqT K H t [.str (sortN k.1), .int (k.2.1 : Int)] ∧ (if k.1 = true then ∃ z, W.pass[k.2.1]? = some z else ∃ z, W.recs[k.2.1]? = some z) ∧ Q (.int (energyT W k)) H
theorem d_energy_of (T : TxtW K mg CL CS CT CR CP CW aS aR fS fT fR fP) (A : At K mg "energy_of" s_energy_of ["world", "thing"]) : DefOk P w K mg base CX0 1 "energy_of" ["world", "thing"] (spEnergy K CS CT CR CP CW) := by
  have B := T.L.B
  refine A.ok sc_energy_of (fun vs H Q E h => ?_) (fun f cdv A outer s H vs Q E hr h => ?_)
  · obtain ⟨ac, t, W, k, rfl, _⟩ := h
    rfl
  obtain ⟨ac, t, W, ⟨b, k, f0, e0⟩, rfl, hW, ht, hk, q⟩ := h
  obtain ⟨dx, t0, t1, t2, t3, x0, x1, x2, x3, gw, _, _, _, _, p2, q2, p3, q3⟩ := hW.ex
  refine ⟨_, pss_cons (ps_asg (pv 1) (pg_tup (by rfl) (pgs_cons (pg_name (i := 2) sc_energy_of.nd rfl (Or.inl rfl)) (pgs_cons (pg_name (i := 3) sc_energy_of.nd rfl (Or.inl rfl)) (pgs_nil)))))
  (pss_cons (ps_if (pt_cmpR op_eq (pv 2) pe_str (nomark _))
      (pss_one (ps_ret (pe_fld (pe_ix ix_tup (pe_fld (pv 0) rfl) (pv 3) (fun _ _ => rfl)) rfl)))
      (pss_nil))
  (pss_one (ps_ret (pe_fld (pe_ix ix_tup (pe_fld (pv 0) rfl) (pv 3) (fun _ _ => rfl)) rfl))))
    , ?_⟩
  refine ⟨_, rfl, t, _, rfl, ht, rfl, _, _, rfl, _, _, rfl, rfl, ?_⟩
  cases b with
  | false =>
    rw [if_neg Bool.false_ne_true] at hk
    obtain ⟨z, hz⟩ := hk
    obtain ⟨ob, od, hob, o1⟩ := rec_at q2 hz
    refine ⟨_, rfl, rfl, _, rfl, iteT' (by show decide (V.str (sortN false) = V.str _) = true; decide +kernel) ?_⟩
    refine ⟨_, rfl, ac, CW, dx, _, _, rfl, gw, T.c_World.cl, T.n_World_recordings, lk_World_recordings, _, rfl, t2, x2, (k : Int), _, rfl, rfl, p2, atI_nat hob, ob, CR, od, _, _, rfl, o1, T.c_Recording.cl, T.n_Recording_energy, lk_Recording_energy, ?_⟩
    have e : energyT W (false, k, f0, e0) = z.energy := by
      unfold energyT
      rw [if_neg Bool.false_ne_true, hz]
      rfl
    rw [e] at q
    exact q
  | true =>
    rw [if_pos rfl] at hk
    obtain ⟨z, hz⟩ := hk
    obtain ⟨pb, pd, ts, hpb, c1, c2⟩ := pas_at q3 hz
    refine ⟨_, rfl, rfl, _, rfl, iteF' (by show decide (V.str (sortN true) = V.str _) = false; decide +kernel) ?_⟩
    refine ⟨_, rfl, ac, CW, dx, _, _, rfl, gw, T.c_World.cl, T.n_World_passes, lk_World_passes, _, rfl, t3, x3, (k : Int), _, rfl, rfl, p3, atI_nat hpb, pb, CP, pd, _, _, rfl, c1, T.c_Pass.cl, T.n_Pass_energy, lk_Pass_energy, ?_⟩
    have e : energyT W (true, k, f0, e0) = z.energy := by
      unfold energyT
      rw [if_pos rfl, hz]
      rfl
    rw [e] at q
    exact q
def spSpending (K : PySem.W.Frag) (CS CT CR CP CW : Addr) : Sp := fun vs H Q _ => ∃ (ac : Addr) (v : V) (W : WorldD) (o : Bool) (c : CaseD) (s : Nat), vs = [.ref ac, v, .int (s : Int)] ∧ WorldOk W ∧ WorldAt K CS CT CR CP CW H ac W ∧ CaseG W o c ∧ Dp K H v (casePy c) ∧ ∀ d H' kvs, Same H H' → H d = none → H' d = some (.dK kvs) → kvs.length ≤ 20 → SpK kvs (spentW W c s) W.horizon → Q (.ref d) H'
set_option maxHeartbeats 4000000 in
theorem d_spending (T : TxtW K mg CL CS CT CR CP CW aS aR fS fT fR fP) (D_busy_things : DefOk P w K mg base CX0 3 "busy_things" ["world", "case", "number"] (spBusy K CS CT CR CP CW)) (D_energy_of : DefOk P w K mg base CX0 1 "energy_of" ["world", "thing"] (spEnergy K CS CT CR CP CW))
    (A : At K mg "spending" s_spending ["world", "case", "number"]) : DefOk P w K mg base CX0 4 "spending" ["world", "case", "number"] (spSpending K CS CT CR CP CW) := by
  have B := T.L.B
  refine A.ok sc_spending (fun vs H Q E h => ?_) (fun f cdv A outer s H vs Q E hr h => ?_)
  · obtain ⟨ac, v, W, o, c, n, rfl, _⟩ := h
    rfl
  obtain ⟨ac, v, W, o, c, n, rfl, wok, hW, cg, hc, q⟩ := h
  have bl := busy_len wok c n
  refine ⟨_, pss_cons (ps_set (i := 3) sc_spending.nd rfl (Or.inl rfl) pe_dnewK)
  (pss_cons (ps_for PassesOwn.never rfl (pi_list (pe_f D_busy_things (hr.mono (by omega)) pass0 (pa_cons (pv 0) (pa_cons (pv 1) (pa_cons (pv 2) pa_nil))))) (pg_tup (by rfl) (pgs_cons (pg_name (i := 4) sc_spending.nd rfl (Or.inl rfl)) (pgs_cons (pg_name (i := 5) sc_spending.nd rfl (Or.inl rfl)) (pgs_nil))))
      (pss_cons (ps_asg (pv 5) (pg_tup (by rfl) (pgs_cons (pg_name (i := 6) sc_spending.nd rfl (Or.inl rfl)) (pgs_cons (pg_name (i := 7) sc_spending.nd rfl (Or.inl rfl)) (pgs_nil)))))
      (pss_one (ps_dput (hu_of hr) (pv 3) (pv 6) (pe_op op_add (pe_dget2 (hu_of hr) (pv 3) (pv 6) pe_int ⟨rfl, rfl, rfl, rfl⟩) (pe_f D_energy_of (hr.mono (by omega)) pass0 (pa_cons (pv 0) (pa_cons (pv 4) pa_nil)))) rfl))))
  (pss_one (ps_ret (pv 3))))
    , ?_⟩
  refine fun d hd => ?_
  have sd := same_new hd (.dK [])
  refine ⟨_, rfl, _, rfl, _, rfl, ac, v, W, o, c, n, rfl, wok, hW.same sd, cg, dp_same sd hc, fun M H1 s1 nM hM => ?_⟩
  obtain ⟨xm, hM1, hM2⟩ := hM
  have lM := dpAll_len hM2
  rw [List.length_map] at lM
  have hd1 := s1 _ _ (show (upd H d (.dK [])) d = some (.dK []) from upd_same)
  have nM : M ≠ d := fun z => by rw [z, upd_same] at nM; cases nM
  refine ⟨M, rfl, ⟨_, SqL.of hM1⟩, ?_⟩
  refine for_it (walk_list (K := K) (a := M) (xs := xm)) (fun i σ H' => ∃ y4 y5 y6 y7, σ = [some (.ref ac), some v, some (.int (n : Int)), some (.ref d), y4, y5, y6, y7] ∧ SameX d H1 H' ∧ ∃ kvs, H' d = some (.dK kvs) ∧ kvs.length ≤ i ∧ SpK kvs (spentL W ((busyL W c n).take i)) W.horizon)
    ⟨none, none, none, none, rfl, SameX.refl _ _, [], hd1, Nat.le_refl _, fun p hp => (nomatch hp), fun m _ => rfl, fun m v h => (by rw [valV_nil] at h; cases h), List.nodup_nil⟩ (fun i σ H' _ hI => ?_) (fun i v' σ H2 H3 hi hI hy => ?_) (fun σ H2 hI => ?_)
  · obtain ⟨y4, y5, y6, y7, rfl, hs, _⟩ := hI
    exact SqL.of (hs _ _ nM hM1)
  · obtain ⟨y4, y5, y6, y7, rfl, hs, kvs, hk, lk, sk⟩ := hI
    obtain ⟨rfl, hx⟩ := hy
    obtain ⟨k, hkq, dk⟩ := dpAll_get (dpAll_sxd (noLs_map noL_thg _) hd1 hs hM2) hx
    obtain ⟨m0, m1, m2, mk⟩ := mem_busy wok (List.mem_of_getElem? hkq)
    obtain ⟨t, a1, a2, rfl, ht, h1, h2⟩ := dp_thg dk
    have hsH := sx_same (sd.trans s1) hd hs
    have ll : i < 20 := by omega
    refine ⟨t, _, rfl, ht, rfl, _, _, rfl, _, _, rfl, rfl, ?_⟩
    refine ⟨_, rfl, a2, _, rfl, h2, rfl, _, _, rfl, _, _, rfl, rfl, ?_⟩
    refine ⟨_, rfl, d, rfl, .inl ⟨_, .inl hk⟩, _, rfl, _, DGet.k (k := Sum.inl k.2.2.1) hk, _, rfl, _, rfl, ac, a1, W, k, rfl, hW.same hsH, h1, mk, _, _, sk.get _, rfl, ?_⟩
    refine ⟨_, rfl, _, rfl, d, _, rfl, DPut.k (k := Sum.inl k.2.2.1) hk (small1000 (by omega)), ?_⟩
    refine ⟨_, _, _, _, rfl, hs.at_, _, upd_same, Nat.le_trans putK_len (by omega), sk.put m0 m1 fun m => ?_⟩
    rw [List.take_add_one, hkq, Option.toList_some, spentL_snoc]
  · obtain ⟨y4, y5, y6, y7, rfl, hs, kvs, hk, lk, sk⟩ := hI
    rw [lM, List.take_length] at sk
    exact ⟨_, rfl, q d _ kvs (sx_same (sd.trans s1) hd hs) hd hk (by omega) sk⟩
end
end DP
namespace DP
open PySem PySem.Spec PyProof.Rows L2
theorem cr_range1 {X : Cx} : CallR X (.type "range") (fun vs H Q => ∃ n, vs = [V.int n] ∧ ∀ p, H p = none → Q (.ref p) (upd H p (.rng 0 n))) := by
  intro pins s σ H xs us Q I rv h
  obtain ⟨n, rfl, q⟩ := h
  cases rv with
  | cons r rv =>
  cases rv
  obtain ⟨t, rfl⟩ := r
  refine call_range_1 ⟨.ref s.heap.objs.size, upd H s.heap.objs.size (.rng 0 n), I.laid (t' := s.toks + 1 + 1) (fun b o e => Heap.get?_push_of_some _ e) (Nat.le_refl _) ?_, rfl, q _ (I.hok.fresh (Nat.le_refl _))⟩
  exact ⟨_, _, _, Heap.get?_push_size _ rfl⟩
def iRngV (te : TE) : TI := fun σ H R => te σ H fun x H1 => ∃ p lo hi, x = .ref p ∧ H1 p = some (.rng lo hi) ∧ (-(2 ^ 62) ≤ lo ∧ lo < 2 ^ 62 ∧ -(2 ^ 62) ≤ hi ∧ hi < 2 ^ 62) ∧ R (Itr lo (hi - lo).toNat) H1
theorem pi_rngV {X : Cx} {tg e : Expr} {te : TE} (he : PE X e te) : PI X tg e (iRngV te) := by
  refine ⟨fun pins s σ H R I h => ?_⟩
  refine thn (he.run pins s σ H _ I h) fun v s1 ⟨x, H1, I1, r1, p, lo, hi, ex, hp, ⟨h1, h2, h3, h4⟩, q⟩ => ?_
  subst ex
  cases r1
  obtain ⟨t, u, w', g⟩ := (show ObjOk X.prog X.w H1 s1.heap p (.rng lo hi) from I1.hok p _ hp)
  refine wpAny_pyIter_range g (small_one h1 h2 h3 h4) ?_
  refine ⟨s1.heap.objs.size, [s1.heap.objs.size], _, _, H1, rfl, I1.kept (t' := s1.toks) fun b o e => Heap.get?_push_of_some _ e, turn_range _ lo (hi - lo).toNat, ?_, fun b hb => ?_, q⟩
  · have e2 : (((hi - lo).toNat : Nat) : Int) - ((0 : Nat) : Int) = Builtin.Range.rangeSize lo hi 1 := by rw [rangeSize_one]; split <;> omega
    show IsRangeIter _ _ (lo + ((0 : Nat) : Int) * 1) ((((hi - lo).toNat : Nat) : Int) - ((0 : Nat) : Int)) 1
    rw [e2, show lo + ((0 : Nat) : Int) * 1 = lo by omega]
    exact Heap.get?_push_size _ rfl
  · have e : b = s1.heap.objs.size := by simpa using hb
    rw [e]
    exact I1.fpOk (Nat.le_refl _) (I1.hok.fresh (Nat.le_refl _))
def gSl (to tl th : TE) : TG := fun v σ H Q => to σ H fun o H1 => tl σ H1 fun l H2 => th σ H2 fun h H3 => ∃ (L b : Addr) (xs ys : List V) (a c : Int), o = .ref L ∧ v = .ref b ∧ l = .int a ∧ h = .int c ∧ H3 L = some (.lst xs) ∧ H3 b = some (.lst ys) ∧ L ≠ b ∧ 0 ≤ a ∧ a ≤ c ∧ c ≤ xs.length ∧ xs.length + ys.length ≤ sizeLine ∧
  Q σ (upd H3 L (.lst (xs.take a.toNat ++ ys ++ xs.drop c.toNat)))
theorem pg_slice {X : Cx} {o lo hi : Expr} {to tl th : TE} {pos p2 : Pos} (ho : PE X o to) (hl : PE X lo tl) (hu : PE X hi th)
    (ha : ∀ v, assign (.Subscript o (.Slice (some lo) (some hi) none p2) pos) X.env v = (do
      let ov ← holding [v] (eval o X.env)
      let iv ← holding [v, ov] (eval (.Slice (some lo) (some hi) none p2) X.env)
      standAt pos
      holding [v, ov, iv] (setItem ov iv v)
      release [iv, v, ov] []) := by intro _; rfl) : PG X (.Subscript o (.Slice (some lo) (some hi) none p2) pos) (gSl to tl th) := by
  refine ⟨fun pins s σ H v u Q I r h => ?_⟩
  rw [ha]
  refine wpAny_bind (wpAny_holding (thn (ho.run pins s σ H _ I h) fun ov s1 ⟨x, H1, I1, r1, q1⟩ => ?_))
  refine wpAny_bind (wpAny_holding (wpAny_Slice ?_))
  rw [evalPart_some]
  refine thn (hl.run pins s1 σ H1 _ I1 q1) fun vl s2 ⟨l, H2, I2, r2, q2⟩ => ?_
  rw [evalPart_some]
  refine thn (hu.run pins s2 σ H2 _ I2 q2) fun vu s3 ⟨h', H3, I3, r3, q3⟩ => ?_
  rw [evalPart_none]
  refine wpAny_pure ?_
  obtain ⟨L, b, xs, ys, a, c, rfl, rfl, rfl, rfl, hL, hB, hne, h0, hac, hc, hz, q⟩ := q3
  have I4 : Inv X pins σ H3 { s3 with heap := s3.heap.push { cls := .type "slice", data := .fields #[vl, vu, .none] } } := I3.kept (t' := s3.toks) fun b ob q => Heap.get?_push_of_some _ q
  cases r1
  cases r
  refine wpAny_bind (wpAny_standAt (wpAny_bind (wpAny_holding (set_slice I4 hL hB hne (Heap.IsSliceOf.new ..) r2 r3 h0 hac hc hz fun s' I5 => ?_))))
  exact wpAny_release ⟨σ, _, I5, q⟩
end DP
namespace DP
open PySem PySem.Spec PyProof.Rows L2
abbrev s_charges : Stmt := topS 63
theorem sc_charges : FnScope ["world", "number", "satellite", "added", "first", "end"] ["world", "number"] (defScope s_charges) := ⟨rfl, rfl, rfl, by decide +kernel, rfl, by decide +kernel, by decide +kernel⟩
abbrev s_battery_levels : Stmt := topS 64
theorem sc_battery_levels : FnScope ["world", "case", "number", "satellite", "spent", "levels", "ahead", "minute", "charge", "level"] ["world", "case", "number"] (defScope s_battery_levels) := ⟨rfl, rfl, rfl, by decide +kernel, rfl, by decide +kernel, by decide +kernel⟩
theorem sat_at {K : PySem.W.Frag} {CS : Addr} {H : Hp} {x0 : List V} {l : List SatD} (q0 : Paired (SatAt K CS H) x0 l) {i : Nat} {z : SatD} (hz : l[i]? = some z) : ∃ sb sd ts ls, x0[i]? = some (.ref sb) ∧ H sb = some (.ins CS sd (satF z ts)) ∧ SqT K H ts ls ∧ Spans K H ls z.light := by
  have l2 := paired_len q0
  obtain ⟨x, hx⟩ : ∃ x, x0[i]? = some x := ⟨_, List.getElem?_eq_getElem (by have := (List.getElem?_eq_some_iff.mp hz).1; omega)⟩
  obtain ⟨z', hz', sb, sd, ts, ls, rfl, c1, c2, c3⟩ := paired_at q0 hx
  rw [hz] at hz'
  cases hz'
  exact ⟨sb, sd, ts, ls, hx, c1, c2, c3⟩
theorem light_in {h : Int} : ∀ {l : List (Int × Int)} {a : Int}, 0 ≤ a → LightOk a h l → ∀ q ∈ l, 0 ≤ q.1 ∧ q.1 < q.2 ∧ q.2 ≤ h
  | [], _, _, _, q, hq => absurd hq List.not_mem_nil
  | p :: r, a, ha, ⟨h1, h2, h3, h4⟩, q, hq => by
    rcases List.mem_cons.mp hq with rfl | hq
    · omega
    · exact light_in (by omega) h4 q hq
/-- what is added behind a minute, by the spans of light -/
def chgI (l : List (Int × Int)) (c : Int) (m : Nat) : Int := if l.any (hasM (m : Int)) = true then c else 0
def chgL (l : List (Int × Int)) (c : Int) (h : Nat) : List V := (List.range h).map fun (m : Nat) => V.int (chgI l c m)
theorem chgL_len (l : List (Int × Int)) (c : Int) (h : Nat) : (chgL l c h).length = h := by unfold chgL; rw [List.length_map, List.length_range]
theorem chg_step {l : List (Int × Int)} {c : Int} {h : Nat} {q : Int × Int} (h0 : 0 ≤ q.1) (h1 : q.1 < q.2) (h2 : q.2 ≤ (h : Int)) :
    (chgL l c h).take q.1.toNat ++ (List.replicate (q.2 - q.1).toNat [V.int c]).flatten ++ (chgL l c h).drop q.2.toNat = chgL (l ++ [q]) c h := by
  rw [List.flatten_replicate_singleton]
  have e1 : ((chgL l c h).take q.1.toNat).length = q.1.toNat := by rw [List.length_take, chgL_len]; omega
  refine List.ext_getElem? fun i => ?_
  have val : (chgL (l ++ [q]) c h)[i]? = if i < h then some (V.int (chgI (l ++ [q]) c i)) else none := by
    unfold chgL
    rw [List.getElem?_map]
    split
    · rename_i hi; rw [List.getElem?_range hi]; rfl
    · rename_i hi; rw [List.getElem?_eq_none (by rw [List.length_range]; omega)]; rfl
  have old : (chgL l c h)[i]? = if i < h then some (V.int (chgI l c i)) else none := by
    unfold chgL
    rw [List.getElem?_map]
    split
    · rename_i hi; rw [List.getElem?_range hi]; rfl
    · rename_i hi; rw [List.getElem?_eq_none (by rw [List.length_range]; omega)]; rfl
  have one : (l ++ [q]).any (hasM (i : Int)) = (l.any (hasM (i : Int)) || (decide (q.1 ≤ (i : Int)) && decide ((i : Int) < q.2))) := by
    rw [List.any_append, List.any_cons, List.any_nil, Bool.or_false]
    rfl
  rw [val, List.append_assoc]
  by_cases k1 : i < q.1.toNat
  · rw [List.getElem?_append_left (by rw [e1]; exact k1), List.getElem?_take_of_lt k1, old]
    unfold chgI
    rw [one, decide_eq_false (by omega : ¬ q.1 ≤ (i : Int)), Bool.false_and, Bool.or_false]
  · rw [List.getElem?_append_right (by rw [e1]; omega), e1]
    by_cases k2 : i < q.2.toNat
    · rw [List.getElem?_append_left (by rw [List.length_replicate]; omega), List.getElem?_replicate, if_pos (by omega), if_pos (by omega)]
      unfold chgI
      rw [one, decide_eq_true (by omega : q.1 ≤ (i : Int)), decide_eq_true (by omega : (i : Int) < q.2), Bool.and_true, Bool.or_true, if_pos rfl]
    · rw [List.getElem?_append_right (by rw [List.length_replicate]; omega), List.length_replicate, List.getElem?_drop, show q.2.toNat + (i - q.1.toNat - (q.2 - q.1).toNat) = i by omega, old]
      unfold chgI
      rw [one, decide_eq_false (by omega : ¬ (i : Int) < q.2), Bool.and_false, Bool.or_false]
theorem chg_zero (c : Int) (h : Nat) : (List.replicate h [V.int 0]).flatten = chgL [] c h := by
  rw [List.flatten_replicate_singleton]
  unfold chgL
  have e : (fun (m : Nat) => V.int (chgI [] c m)) = fun _ => V.int 0 := by funext m; rfl
  rw [e, List.map_const', List.length_range]
/-- the battery ahead of a minute, at it -/
def aheadW (batt start : Int) (sp ch : Nat → Int) : Nat → Int
  | 0 => start
  | n + 1 => if aheadW batt start sp ch n - sp n + ch n < batt then aheadW batt start sp ch n - sp n + ch n else batt
def levelW (batt start : Int) (sp ch : Nat → Int) (n : Nat) : Int := aheadW batt start sp ch n - sp n
def levelsW (W : WorldD) (c : CaseD) (s : Nat) (z : SatD) (n : Nat) : List Int := (List.range n).map fun (m : Nat) => levelW z.battery z.level (fun m => spentW W c s (m : Int)) (chgI z.light z.charge) m
section
variable {P : Program} {w : World} {K : PySem.W.Frag} {mg : Str → Option Value} {base : Heap} {CL CS CT CR CP CW aS aR fS fT fR fP : Addr}
def spCharges (K : PySem.W.Frag) (CS CT CR CP CW : Addr) : Sp := fun vs H Q _ => ∃ (ac : Addr) (W : WorldD) (s : Nat) (z : SatD), vs = [.ref ac, .int (s : Int)] ∧ WorldOk W ∧ WorldAt K CS CT CR CP CW H ac W ∧ W.sats[s]? = some z ∧ ∀ D H', Same H H' → H D = none → H' D = some (.lst (chgL z.light z.charge W.horizon.toNat)) → Q (.ref D) H'
set_option maxHeartbeats 4000000 in
theorem d_charges (T : TxtW K mg CL CS CT CR CP CW aS aR fS fT fR fP) (A : At K mg "charges" s_charges ["world", "number"]) : DefOk P w K mg base CX0 1 "charges" ["world", "number"] (spCharges K CS CT CR CP CW) := by
  have B := T.L.B
  refine A.ok sc_charges (fun vs H Q E h => ?_) (fun f cdv A outer s H vs Q E hr h => ?_)
  · obtain ⟨ac, W, s, z, rfl, _⟩ := h
    rfl
  obtain ⟨ac, W, n, z, rfl, wok, hW, hz, q⟩ := h
  obtain ⟨dx, t0, t1, t2, t3, x0, x1, x2, x3, gw, p0, q0, _, _, p2, q2, p3, q3⟩ := hW.ex
  obtain ⟨sb, sd, ts, ls, hsb, g1, g2, g3⟩ := sat_at q0 hz
  have ok := wok.sats z (List.mem_of_getElem? hz)
  have hh := wok.horizon
  have lin := light_in (Int.le_refl 0) ok.light
  have ll := paired_len g3
  refine ⟨_, pss_cons (ps_set (i := 2) sc_charges.nd rfl (Or.inl rfl) (pe_ix ix_tup (pe_fld (pv 0) rfl) (pv 1) (fun _ _ => rfl)))
  (pss_cons (ps_set (i := 3) sc_charges.nd rfl (Or.inl rfl) (pe_op op_rep (pe_lst (pa_cons pe_int pa_nil)) (pe_fld (pv 0) rfl)))
  (pss_cons (ps_for PassesOwn.never rfl (pi_tup (pe_fld (pv 2) rfl)) (pg_tup (by rfl) (pgs_cons (pg_name (i := 4) sc_charges.nd rfl (Or.inl rfl)) (pgs_cons (pg_name (i := 5) sc_charges.nd rfl (Or.inl rfl)) (pgs_nil))))
      (pss_one (ps_asg (pe_op op_rep (pe_lst (pa_cons (pe_fld (pv 2) rfl) pa_nil)) (pe_op op_sub (pv 5) (pv 4))) (pg_slice (pv 3) (pv 4) (pv 5)))))
  (pss_one (ps_ret (pv 3)))))
    , ?_⟩
  refine ⟨_, rfl, ac, CW, dx, _, _, rfl, gw, T.c_World.cl, T.n_World_satellites, lk_World_satellites, _, rfl, t0, x0, (n : Int), _, rfl, rfl, p0, atI_nat hsb, ?_⟩
  refine ⟨(by show 1 ≤ sizeLine; decide), fun p hp => ?_⟩
  have sp := same_new hp (.lst [.int 0])
  refine ⟨_, rfl, ac, CW, dx, _, _, rfl, sp _ _ gw, T.c_World.cl, T.n_World_horizon, lk_World_horizon, p, W.horizon, [.int 0], rfl, rfl, upd_same, by omega, by omega, (by show 1 * _ ≤ _; rw [Nat.one_mul]; exact small (by omega)), fun D hD => ?_⟩
  rw [chg_zero z.charge]
  have s1 := sp.trans (same_new hD (.lst (chgL [] z.charge W.horizon.toNat)))
  have nD := sp.free hD
  refine ⟨_, rfl, sb, CS, sd, _, _, rfl, s1 _ _ g1, T.c_Satellite.cl, T.n_Satellite_light, lk_Satellite_light, ts, rfl, ⟨_, Same.tup s1 g2⟩, for_tup (K := K) (a := ts) (xs := ls) (fun i σ H' => ∃ y4 y5, σ = [some (.ref ac), some (.int (n : Int)), some (.ref sb), some (.ref D), y4, y5] ∧ Same H H' ∧ H' D = some (.lst (chgL (z.light.take i) z.charge W.horizon.toNat)))
    ⟨none, none, rfl, s1, upd_same⟩ (fun i σ H' _ hI => ?_) (fun i x σ H' hx hI => ?_) (fun σ H' hI => ?_)⟩
  · obtain ⟨y4, y5, rfl, hs, _⟩ := hI
    exact Same.tup hs g2
  · obtain ⟨y4, y5, rfl, hs, hd⟩ := hI
    obtain ⟨k, hk, t, rfl, ht⟩ := paired_at g3 hx
    obtain ⟨k0, k1, k2⟩ := lin k (List.mem_of_getElem? hk)
    refine ⟨t, _, rfl, Same.tup hs ht, rfl, _, _, rfl, _, _, rfl, rfl, ?_⟩
    refine ⟨_, rfl, sb, CS, sd, _, _, rfl, hs _ _ g1, T.c_Satellite.cl, T.n_Satellite_charge, lk_Satellite_charge, (by show 1 ≤ sizeLine; decide), fun b hb => ⟨_, rfl, _, rfl, _, _, rfl, rfl, b, k.2 - k.1, [.int z.charge], rfl, rfl, upd_same, by omega, by omega, (by show 1 * _ ≤ _; rw [Nat.one_mul]; exact small (by omega)), fun e he => ?_⟩⟩
    have sB := (same_new hb (.lst [.int z.charge])).trans (same_new he (.lst (List.replicate (k.2 - k.1).toNat [V.int z.charge]).flatten))
    have hd2 := sB _ _ hd
    have ne : D ≠ e := ne_of_none ((same_new hb (.lst [.int z.charge])) _ _ hd) he
    refine ⟨_, rfl, _, rfl, _, rfl, D, e, _, _, k.1, k.2, rfl, rfl, rfl, rfl, hd2, upd_same, ne, k0, by omega, by rw [chgL_len]; omega, ?_, _, _, rfl, same_at nD (hs.trans sB) _, ?_⟩
    · rw [chgL_len, List.flatten_replicate_singleton, List.length_replicate]
      exact small (by omega)
    · rw [upd_same, chg_step k0 k1 (by omega), take_snoc hk]
  · obtain ⟨y4, y5, rfl, hs, hd⟩ := hI
    rw [ll, List.take_length] at hd
    exact ⟨_, rfl, q D _ hs nD hd⟩
def spLevels (K : PySem.W.Frag) (CS CT CR CP CW : Addr) : Sp := fun vs H Q _ => ∃ (ac : Addr) (v : V) (W : WorldD) (o : Bool) (c : CaseD) (s : Nat) (z : SatD), vs = [.ref ac, v, .int (s : Int)] ∧ WorldOk W ∧ WorldAt K CS CT CR CP CW H ac W ∧ CaseG W o c ∧ Dp K H v (casePy c) ∧ W.sats[s]? = some z ∧ ∀ t H', Same H H' → SqT K H' t ((levelsW W c s z W.horizon.toNat).map V.int) → Q (.ref t) H'
set_option maxHeartbeats 4000000 in
theorem d_levels (T : TxtW K mg CL CS CT CR CP CW aS aR fS fT fR fP) (D_spending : DefOk P w K mg base CX0 4 "spending" ["world", "case", "number"] (spSpending K CS CT CR CP CW)) (D_charges : DefOk P w K mg base CX0 1 "charges" ["world", "number"] (spCharges K CS CT CR CP CW))
    (A : At K mg "battery_levels" s_battery_levels ["world", "case", "number"]) : DefOk P w K mg base CX0 5 "battery_levels" ["world", "case", "number"] (spLevels K CS CT CR CP CW) := by
  have B := T.L.B
  refine A.ok sc_battery_levels (fun vs H Q E h => ?_) (fun f cdv A outer s H vs Q E hr h => ?_)
  · obtain ⟨ac, v, W, o, c, s, z, rfl, _⟩ := h
    rfl
  obtain ⟨ac, v, W, o, c, n, z, rfl, wok, hW, cg, hc, hz, q⟩ := h
  obtain ⟨dx, t0, t1, t2, t3, x0, x1, x2, x3, gw, p0, q0, _, _, p2, q2, p3, q3⟩ := hW.ex
  obtain ⟨sb, sd, ts, ls, hsb, g1, g2, g3⟩ := sat_at q0 hz
  have hh := wok.horizon
  refine ⟨_, pss_cons (ps_set (i := 3) sc_battery_levels.nd rfl (Or.inl rfl) (pe_ix ix_tup (pe_fld (pv 0) rfl) (pv 2) (fun _ _ => rfl)))
  (pss_cons (ps_set (i := 4) sc_battery_levels.nd rfl (Or.inl rfl) (pe_f D_spending (hr.mono (by omega)) pass0 (pa_cons (pv 0) (pa_cons (pv 1) (pa_cons (pv 2) pa_nil)))))
  (pss_cons (ps_set (i := 5) sc_battery_levels.nd rfl (Or.inl rfl) (pe_lst pa_nil))
  (pss_cons (ps_set (i := 6) sc_battery_levels.nd rfl (Or.inl rfl) (pe_fld (pv 3) rfl))
  (pss_cons (ps_for PassesOwn.never rfl (pi_enum (by rfl) B.enumerate (pa_cons (pe_f D_charges (hr.mono (by omega)) pass0 (pa_cons (pv 0) (pa_cons (pv 2) pa_nil))) pa_nil)) (pg_tup (by rfl) (pgs_cons (pg_name (i := 7) sc_battery_levels.nd rfl (Or.inl rfl)) (pgs_cons (pg_name (i := 8) sc_battery_levels.nd rfl (Or.inl rfl)) (pgs_nil))))
      (pss_cons (ps_set (i := 9) sc_battery_levels.nd rfl (Or.inl rfl) (pe_op op_sub (pv 6) (pe_dget2 (hu_of hr) (pv 4) (pv 7) pe_int ⟨rfl, rfl, rfl, rfl⟩)))
      (pss_cons (ps_expr (pe_bm PySem.F.plainAttrs_list PySem.F.slot_list_append PySem.F.type_list_append mt_append (pv 5) (pa_cons (pv 9) pa_nil)))
      (pss_one (ps_set (i := 6) sc_battery_levels.nd rfl (Or.inl rfl) (pe_callB (call_min2 rfl) (by rfl) B.min (by decide +kernel) (pa_cons (pe_fld (pv 3) rfl) (pa_cons (pe_op op_add (pv 9) (pv 8)) pa_nil))))))))
  (pss_one (ps_ret (pe_callTy (call_tuple_of) (by rfl) B.tuple (by decide +kernel) (pa_cons (pv 5) pa_nil))))))))
    , ?_⟩
  refine ⟨_, rfl, ac, CW, dx, _, _, rfl, gw, T.c_World.cl, T.n_World_satellites, lk_World_satellites, _, rfl, t0, x0, (n : Int), _, rfl, rfl, p0, atI_nat hsb, ?_⟩
  refine ⟨_, rfl, _, rfl, _, rfl, ac, v, W, o, c, n, rfl, wok, hW, cg, hc, fun d H1 kvs s1 nd hd lk sk => ?_⟩
  refine ⟨Nat.zero_le _, fun D hD => ?_⟩
  have sD := s1.trans (same_new hD (.lst []))
  have nD := s1.free hD
  have hd2 := same_new hD (.lst []) _ _ hd
  have ndD : d ≠ D := ne_of_none hd hD
  refine ⟨_, rfl, sb, CS, sd, _, _, rfl, sD _ _ g1, T.c_Satellite.cl, T.n_Satellite_start_level, lk_Satellite_start_level, ?_⟩
  refine ⟨_, rfl, _, rfl, ac, W, n, z, rfl, wok, hW.same sD, hz, fun M H2 s2 nM hM => ?_⟩
  have nMD : M ≠ D := fun e => by rw [e] at nM; rw [upd_same] at nM; cases nM
  have hd3 := s2 _ _ hd2
  have hD3 := s2 _ _ (show (upd H1 D (.lst [])) D = some (.lst []) from upd_same)
  have ok := wok.sats z (List.mem_of_getElem? hz)
  refine ⟨M, _, rfl, SqL.of hM, ?_⟩
  refine for_it (walk_enum (K := K) (a := M) (xs := chgL z.light z.charge W.horizon.toNat)) (fun i σ H' => ∃ y7 y8 y9, σ = [some (.ref ac), some v, some (.int (n : Int)), some (.ref sb), some (.ref d), some (.ref D), some (.int (aheadW z.battery z.level (fun m => spentW W c n (m : Int)) (chgI z.light z.charge) i)), y7, y8, y9] ∧ SameX D H2 H' ∧ H' D = some (.lst ((levelsW W c n z i).map V.int)))
    ⟨none, none, none, rfl, SameX.refl _ _, hD3⟩ (fun i σ H' _ hI => ?_) (fun i v' σ H3 H4 hi hI hy => ?_) (fun σ H3 hI => ?_)
  · obtain ⟨y7, y8, y9, rfl, hs, _⟩ := hI
    exact SqL.of (hs _ _ nMD hM)
  · obtain ⟨y7, y8, y9, rfl, hs, hDD⟩ := hI
    obtain ⟨T1, x, y, rfl, hT, rfl, ex, ey⟩ := hy
    cases ex
    have ey2 : y = .int (chgI z.light z.charge i) := by
      unfold chgL at ey
      dsimp only at ey
      rw [List.getElem?_map, List.getElem?_range (by rw [chgL_len] at hi; exact hi)] at ey
      exact (Option.some.inj ey).symm
    subst ey2
    rw [chgL_len] at hi
    have sT := same_new hT (.tup [.int ((i : Nat) : Int), .int (chgI z.light z.charge i)])
    have hs2 := hs.trans (SameX.of sT)
    have hsH := sx_same (sD.trans s2) nD hs2
    have hDA := sT _ _ hDD
    have hdA := hs2 _ _ ndD hd3
    refine ⟨T1, _, rfl, SqT.of upd_same, rfl, _, _, rfl, _, _, rfl, rfl, ?_⟩
    generalize (upd H3 T1 (.tup [.int ((i : Nat) : Int), .int (chgI z.light z.charge i)])) = H5 at hs2 hsH hDA hdA
    refine ⟨_, rfl, _, rfl, d, rfl, .inl ⟨_, .inl hdA⟩, _, rfl, _, DGet.k (k := Sum.inl (i : Int)) hdA, _, _, rfl, sk.get _, ?_⟩
    refine ⟨_, rfl, .inl ⟨rfl, _, SqL.of hDA⟩, _, rfl, D, _, _, rfl, rfl, hDA, (by rw [List.length_map]; unfold levelsW; rw [List.length_map, List.length_range]; exact small1000 (by omega)), ?_⟩
    refine ⟨_, rfl, sb, CS, sd, _, _, rfl, (sx_same (sD.trans s2) nD hs2.at_) _ _ g1, T.c_Satellite.cl, T.n_Satellite_battery, lk_Satellite_battery, _, rfl, _, rfl, _, _, rfl, rfl, _, _, rfl, ?_⟩
    refine ⟨_, _, _, rfl, hs2.at_, ?_⟩
    rw [upd_same]
    unfold levelsW
    rw [List.range_succ, List.map_append, List.map_append]
    rfl
  · obtain ⟨y7, y8, y9, rfl, hs, hDD⟩ := hI
    rw [chgL_len] at hDD
    refine ⟨_, rfl, D, _, rfl, .inl ⟨SqL.of hDD, fun t ht => ?_⟩⟩
    exact q t _ ((sx_same (sD.trans s2) nD hs).trans (same_new ht _)) (SqT.of upd_same)
end
end DP
namespace DP
open PySem PySem.Spec PyProof.Rows L2
abbrev s__law_made : Stmt := topS 81
theorem sc__law_made : FnScope ["world", "case", "s", "found", "r", "entry"] ["world", "case", "s"] (defScope s__law_made) := ⟨rfl, rfl, rfl, by decide +kernel, rfl, by decide +kernel, by decide +kernel⟩
abbrev s__law_has_antenna : Stmt := topS 82
theorem sc__law_has_antenna : FnScope ["world", "case", "p", "entry"] ["world", "case", "p"] (defScope s__law_has_antenna) := ⟨rfl, rfl, rfl, by decide +kernel, rfl, by decide +kernel, by decide +kernel⟩
abbrev s__law_taken : Stmt := topS 83
theorem sc__law_taken : FnScope ["world", "case", "s", "p"] ["world", "case", "s"] (defScope s__law_taken) := ⟨rfl, rfl, rfl, by decide +kernel, rfl, by decide +kernel, by decide +kernel⟩
/-- those of a satellite -/
def satOf (W : WorldD) (s : Nat) (r : Nat) : Bool := match W.recs[r]? with
  | some z => decide (z.sat = s)
  | none => false
def madeS (W : WorldD) (c : CaseD) (s : Nat) (n : Nat) : List (Nat × Int × Int) := (madeL W c n).filter fun q => satOf W s q.1
def takS (W : WorldD) (c : CaseD) (s : Nat) (n : Nat) : List Nat := (List.range n).filter fun p => (match W.pass[p]? with | some z => decide (z.sat = s) | none => false) && antB W c p
theorem madeS_succ (W : WorldD) (c : CaseD) (s : Nat) (n : Nat) : madeS W c s (n + 1) = madeS W c s n ++ (madeAt W c n).filter fun q => satOf W s q.1 := by
  unfold madeS
  rw [madeL_succ, List.filter_append]
/-- an option told by its parts -/
theorem opts_iff {W : WorldD} {z : RecD} (ok : RecOk W z) (s p : Int) : (s, p) ∈ optsW W z ↔ (0 ≤ p ∧ p < (W.pass.length : Int)) ∧ optB W z s p = true := by
  have k1 := ok.earliest
  have k2 := ok.latest
  unfold optsW optR
  rw [List.mem_flatMap]
  constructor
  · rintro ⟨i, hi, h⟩
    unfold optS at h
    obtain ⟨k, hk, h⟩ := List.mem_flatMap.mp h
    rw [List.mem_range] at hi hk
    have hc : W.pass[k]? = some W.pass[k] := List.getElem?_eq_getElem hk
    rw [optAt_some hc] at h
    split at h
    · rename_i ho
      have e := List.mem_singleton.mp h
      have e1 : s = z.earliest + (i : Int) := congrArg Prod.fst e
      have e2 : p = (k : Int) := congrArg Prod.snd e
      subst e1 e2
      refine ⟨by omega, ?_⟩
      unfold optB isOpt
      rw [Int.toNat_natCast, hc]
      dsimp only
      rw [ho, decide_eq_true (Int.natCast_nonneg k), decide_eq_true (by omega : z.earliest ≤ z.earliest + (i : Int)), decide_eq_true (by omega : z.earliest + (i : Int) ≤ z.latest)]
      rfl
    · exact absurd h List.not_mem_nil
  · rintro ⟨⟨h0, h1⟩, ho⟩
    obtain ⟨k, rfl⟩ : ∃ k : Nat, p = (k : Int) := ⟨p.toNat, by omega⟩
    have hc : W.pass[k]? = some W.pass[k] := List.getElem?_eq_getElem (by omega)
    unfold optB isOpt at ho
    rw [Int.toNat_natCast, hc] at ho
    obtain ⟨_, ho⟩ := Bool.and_eq_true_iff.mp ho
    obtain ⟨h2, ho⟩ := Bool.and_eq_true_iff.mp ho
    obtain ⟨h3, ho⟩ := Bool.and_eq_true_iff.mp ho
    have h2 := of_decide_eq_true h2
    have h3 := of_decide_eq_true h3
    refine ⟨(s - z.earliest).toNat, List.mem_range.mpr (by omega), List.mem_flatMap.mpr ⟨k, List.mem_range.mpr (by omega), ?_⟩⟩
    rw [optAt_some hc, show z.earliest + ((s - z.earliest).toNat : Int) = s by omega, if_pos ho]
    exact List.mem_singleton.mpr rfl
theorem eqv_span (a b : Int × Int) : PyData.eqv (spanPy a) (spanPy b) = decide (a = b) := by
  show (a.1 == b.1 && (a.2 == b.2 && true)) = _
  rw [Bool.and_true]
  obtain ⟨a1, a2⟩ := a
  obtain ⟨b1, b2⟩ := b
  by_cases h1 : a1 = b1
  · by_cases h2 : a2 = b2
    · subst h1 h2; simp
    · simp [h2]
  · simp [h1]
theorem any_opt {W : WorldD} {z : RecD} (ok : RecOk W z) {s p : Int} (h0 : 0 ≤ p) (h1 : p < (W.pass.length : Int)) : ((optsW W z).map spanPy).any (fun d => PyData.eqv d (spanPy (s, p))) = optB W z s p := by
  rw [List.any_map]
  have e : ((fun d => PyData.eqv d (spanPy (s, p))) ∘ spanPy) = fun q => decide (q = (s, p)) := by funext q; exact eqv_span q (s, p)
  rw [e, Bool.eq_iff_iff, List.any_eq_true]
  constructor
  · rintro ⟨q, hq, e⟩
    have := of_decide_eq_true e
    subst this
    exact ((opts_iff ok s p).mp hq).2
  · exact fun h => ⟨(s, p), (opts_iff ok s p).mpr ⟨⟨h0, h1⟩, h⟩, decide_eq_true rfl⟩
theorem shp_spans (l : List (Int × Int)) : SeqAt.shaped (.list (l.map spanPy)) = true := by
  have h1 := lay_map (f := spanPy) (fun _ => rfl) l
  have h2 := depth_map (f := spanPy) (n := 1) (fun _ => Nat.le_refl _) l
  unfold SeqAt.shaped
  rw [show (PyData.list (l.map spanPy)).canLay0 = PyData.canLayAll0 (l.map spanPy) from rfl, h1, Bool.true_and]
  refine decide_eq_true ?_
  show PyData.depthAll (l.map spanPy) + 1 ≤ 64
  omega
section
variable {P : Program} {w : World} {K : PySem.W.Frag} {mg : Str → Option Value} {base : Heap} {CL CS CT CR CP CW aS aR fS fT fR fP : Addr}
def spLawMade (K : PySem.W.Frag) : Sp := fun vs H Q _ => ∃ (wd : Addr) (v : V) (W : WorldD) (o : Bool) (c : CaseD) (s : Nat), vs = [.ref wd, v, .int (s : Int)] ∧ WorldOk W ∧ WdAt K H wd W ∧ CaseG W o c ∧ Dp K H v (casePy c) ∧ ∀ D H', Same H H' → H D = none → DL K tripPy H' D (madeS W c s W.recs.length) → Q (.ref D) H'
set_option maxHeartbeats 4000000 in
theorem d_lmade (B : Bt mg) (D_law_options : DefOk P w K mg base CX0 1 "_law_options" ["world", "number"] (spLawOptions K)) (A : At K mg "_law_made" s__law_made ["world", "case", "s"]) : DefOk P w K mg base CX0 2 "_law_made" ["world", "case", "s"] (spLawMade K) := by
  refine A.ok sc__law_made (fun vs H Q E h => ?_) (fun f cdv A outer s H vs Q E hr h => ?_)
  · obtain ⟨wd, v, W, o, c, n, rfl, _⟩ := h
    rfl
  obtain ⟨wd, v, W, o, c, n, rfl, wok, hwd, cg, hc, q⟩ := h
  obtain ⟨t, tm, tt, xm, xt, rfl, ht, hm, htt, hxm, hxt, lm, lt⟩ := case_two hc
  obtain ⟨wa, wb, wc, we, xa, xb, xc, xd, g, a1, a2, b1, b2, c1, c2, e1, e2⟩ := hwd.ex
  have m2 := dpAll_len c2
  rw [List.length_map] at m2
  have nM := cg.nM
  have nR := wok.nRecs
  refine ⟨_, pss_cons (ps_set (i := 3) sc__law_made.nd rfl (Or.inl rfl) (pe_lst pa_nil))
  (pss_cons (ps_for PassesOwn.never rfl (pi_range1 (by rfl) B.range (pa_cons (pe_callB (call_len_seq) (by rfl) B.len (by decide +kernel) (pa_cons (pe_dget (hu_of hr) (pv 0) pe_str (fun _ _ => rfl)) pa_nil)) pa_nil)) (pg_name (i := 4) sc__law_made.nd rfl (Or.inl rfl))
      (pss_cons (ps_set (i := 5) sc__law_made.nd rfl (Or.inl rfl) (pe_ix ix_tup (pe_ix ix_tup (pv 1) pe_int (fun _ _ => rfl)) (pv 4) (fun _ _ => rfl)))
      (pss_one (ps_if (PW.pt (pw_and (pt_cmpR op_notN (pv 5) pe_non (nomark _)) (pw_and (pt_cmpR (op_neD (hu64 hr)) (pv 5) pe_str (nomark _)) (pw_and (pt_cmpR op_eq (pe_ix ix_tup (pe_ix ix_list (pe_dget (hu_of hr) (pv 0) pe_str (fun _ _ => rfl)) (pv 4) (fun _ _ => rfl)) pe_int (fun _ _ => rfl)) (pv 2) (nomark _)) (pw_and1 (pt_cmpR (op_inD (hu65 hr)) (pv 5) (pe_f D_law_options (hr.mono (by omega)) pass0 (pa_cons (pv 0) (pa_cons (pv 4) pa_nil))) (by rfl)))))))
          (pss_one (ps_expr (pe_bm PySem.F.plainAttrs_list PySem.F.slot_list_append PySem.F.type_list_append mt_append (pv 3) (pa_cons (pe_tup (pa_cons (pv 4) (pa_cons (pe_ix ix_tup (pv 5) pe_int (fun _ _ => rfl)) (pa_cons (pe_ix ix_tup (pv 5) pe_int (fun _ _ => rfl)) pa_nil)))) pa_nil))))
          (pss_nil)))))
  (pss_one (ps_ret (pv 3))))
    , ?_⟩
  refine ⟨Nat.zero_le _, fun D hD => ?_⟩
  have sD := same_new hD (.lst [])
  refine ⟨_, rfl, wd, _, rfl, get_r (sD _ _ g), wc, xc, rfl, .inl (SqL.of (sD _ _ c1)), _, rfl, by omega, by omega, ?_⟩
  refine for_range (lo := 0) (n := (xc.length : Int).toNat) (fun i σ H' => ∃ y4 y5, σ = [some (.ref wd), some (.ref t), some (.int (n : Int)), some (.ref D), y4, y5] ∧ Same H H' ∧ DL K tripPy H' D (madeS W c n i)) ⟨none, none, rfl, sD, DL.nil⟩ (fun i σ H1 hi hI => ?_) (fun σ H1 hI => ?_)
  · obtain ⟨y4, y5, rfl, hs, hd⟩ := hI
    have hi' : i < W.recs.length := by omega
    obtain ⟨z, hz⟩ : ∃ z, W.recs[i]? = some z := ⟨_, List.getElem?_eq_getElem hi'⟩
    obtain ⟨e, he⟩ : ∃ e, c.made[i]? = some e := ⟨_, List.getElem?_eq_getElem (by omega)⟩
    have ok := wok.recs z (List.mem_of_getElem? hz)
    obtain ⟨y, hy, dy⟩ := dpAll_get2 hxm he
    obtain ⟨x, ex, dx⟩ := dpAll_get2 c2 hz
    obtain ⟨rt, rt1, rt2, rfl, u1, u2, u3⟩ := rec_open dx
    have dy := dp_same hs dy
    have eok := cg.mOk e (List.mem_of_getElem? he)
    have ll : (madeS W c n i).length ≤ i := Nat.le_trans (List.length_filter_le _ _) (madeL_len W c i)
    have ms := madeS_succ W c n i
    have ma : madeAt W c i = match W.recs[i]?, c.made[i]? with | some z, some (.at_ s p) => if optB W z s p = true then [(i, s, p)] else [] | _, _ => [] := rfl
    rw [hz, he] at ma
    have skip : (madeAt W c i).filter (fun q => satOf W n q.1) = [] → ∃ y4 y5, ([some (.ref wd), some (.ref t), some (.int (n : Int)), some (.ref D), some (.int (0 + (i : Int))), some y] : L2.St) = [some (.ref wd), some (.ref t), some (.int (n : Int)), some (.ref D), y4, y5] ∧ Same H H1 ∧ DL K tripPy H1 D (madeS W c n (i + 1)) := fun e => by
      rw [ms, e, List.append_nil]
      exact ⟨_, _, rfl, hs, hd⟩
    refine ⟨_, rfl, t, _, 0, _, rfl, rfl, Same.tup hs ht, rfl, _, rfl, tm, xm, (i : Int), y, rfl, by rw [Int.zero_add], Same.tup hs hm, atI_nat hy, ?_⟩
    cases e with
    | non =>
      cases dy
      exact ⟨_, rfl, rfl, _, rfl, iteF' rfl (skip (by rw [ma]; rfl))⟩
    | opn =>
      cases dy
      exact ⟨_, rfl, rfl, _, rfl, iteT' rfl ⟨_, rfl, .str "open", .str "open", .str _, .str _, by decide +kernel, by decide +kernel, _, rfl, iteF' (by decide +kernel) (skip (by rw [ma]; rfl))⟩⟩
    | at_ st p =>
      obtain ⟨h0, h1, h2, h3⟩ := eok
      have dy0 := dy
      obtain ⟨te, xe, rfl, hte, hxe⟩ := dp_tup dy
      have exx := dp_ints (ns := [st, p]) hxe
      subst exx
      have sat1 : satOf W n i = decide (z.sat = n) := by
        unfold satOf
        rw [hz]
      rw [show (match some z, some (EntM.at_ st p) with | some z, some (.at_ s p) => if optB W z s p = true then [(i, s, p)] else [] | _, _ => []) = if optB W z st p = true then [(i, st, p)] else [] from rfl] at ma
      refine ⟨_, rfl, rfl, _, rfl, iteT' rfl ⟨_, rfl, entM (.at_ st p), .str "open", dy0, .str _, lay_entM _, by decide +kernel, _, rfl, iteT' rfl ?_⟩⟩
      refine ⟨_, rfl, wd, _, rfl, get_r (hs _ _ g), _, rfl, wc, xc, (i : Int), _, rfl, by rw [Int.zero_add], SqL.of (hs _ _ c1), atI_nat ex, rt, _, 1, _, rfl, rfl, Same.tup hs u1, rfl, _, rfl, rfl, _, rfl, ite2 (fun k1 => ?_) (fun k1 => ?_)⟩
      · have es : z.sat = n := by
          have := V.int.inj (of_decide_eq_true k1)
          omega
        refine ⟨_, rfl, _, rfl, _, rfl, wd, W, i, z, by rw [Int.zero_add]; rfl, wok, hwd.same hs, hz, fun l ls H3 s3 hl0 hl3 hx => ?_⟩
        have hsA := hs.trans s3
        refine ⟨spanPy (st, p), (optsW W z).map spanPy, dp_same s3 dy0, .lst (SqL.of hl3) (spans_dp hx), lay_entM (.at_ st p), shp_spans _, _, rfl, ?_⟩
        rw [any_opt ok h2 h3]
        refine ite2 (fun k2 => ?_) (fun k2 => ?_)
        · have hd3 := hd.same s3
          obtain ⟨xs0, hx0, _⟩ := id hd3
          have hte := Same.tup s3 hte
          refine ⟨_, rfl, .inl ⟨rfl, _, SqL.of hx0⟩, _, rfl, _, rfl, te, _, 0, _, rfl, rfl, hte, rfl, _, rfl, te, _, 1, _, rfl, rfl, hte, rfl, (by show 3 ≤ sizeLine; decide), fun t3 ht3 => ?_⟩
          have sB := same_new ht3 (.tup [.int (0 + (i : Int)), .int st, .int p])
          have tv : Dp K (upd H3 t3 (.tup [.int (0 + (i : Int)), .int st, .int p])) (.ref t3) (tripPy (i, st, p)) := .tup (SqT.of (by rw [upd_same, Int.zero_add])) (.cons (.int _) (.cons (.int _) (.cons (.int _) .nil)))
          obtain ⟨xs, g1, g2, g3⟩ := (hd3.same sB).push noL_trip tv (by omega)
          refine ⟨D, xs, _, rfl, rfl, g1, g2, _, _, rfl, same_at hD (hsA.trans sB) _, ?_⟩
          rw [ms, ma, if_pos k2, List.filter_cons, if_pos (by rw [sat1, decide_eq_true es]), List.filter_nil]
          exact g3
        · rw [ms, ma, if_neg k2, List.filter_nil, List.append_nil]
          exact ⟨_, _, rfl, hsA, hd.same s3⟩
      · refine skip ?_
        have ne : ¬ z.sat = n := fun e => k1 (decide_eq_true (by rw [e]))
        rw [ma]
        split
        · rw [List.filter_cons, if_neg (by rw [sat1, decide_eq_false ne]; exact Bool.false_ne_true), List.filter_nil]
        · rfl
  · obtain ⟨y4, y5, rfl, hs, hd⟩ := hI
    rw [show (xc.length : Int).toNat = W.recs.length by omega] at hd
    exact ⟨_, rfl, q D _ hs hD hd⟩
end
end DP
namespace DP
open PySem PySem.Spec PyProof.Rows L2
def satP (W : WorldD) (s : Nat) (p : Nat) : Bool := match W.pass[p]? with
  | some z => decide (z.sat = s)
  | none => false
theorem takS_filter (W : WorldD) (c : CaseD) (s n : Nat) : takS W c s n = (takL W c n).filter (satP W s) := by
  unfold takS takL
  rw [List.filter_filter]
  rfl
theorem mem_madeS {W : WorldD} {c : CaseD} {s n : Nat} {q : Nat × Int × Int} (h : q ∈ madeS W c s n) : q.1 < n ∧ ∃ z y, W.recs[q.1]? = some z ∧ z.sat = s ∧ W.pass[q.2.2.toNat]? = some y ∧ 0 ≤ q.2.2 ∧ isOpt z q.2.1 y = true ∧ recThg W s q = [(false, q.1, q.2.1, q.2.1 + z.length)] := by
  obtain ⟨h1, h2⟩ := List.mem_filter.mp h
  obtain ⟨k, z, y, hz, hy, h0, ho⟩ := mem_made h1
  unfold satOf at h2
  rw [hz] at h2
  have es := of_decide_eq_true h2
  refine ⟨k, z, y, hz, es, hy, h0, ho, ?_⟩
  unfold recThg
  rw [hz]
  exact if_pos es
theorem mem_takS {W : WorldD} {c : CaseD} {s n p : Nat} (h : p ∈ takS W c s n) : p < n ∧ antB W c p = true ∧ ∃ z, W.pass[p]? = some z ∧ z.sat = s ∧ pasThg W s p = [(true, p, z.first, z.fin)] := by
  rw [takS_filter] at h
  obtain ⟨h1, h2⟩ := List.mem_filter.mp h
  obtain ⟨k, ha⟩ := mem_tak h1
  unfold satP at h2
  split at h2
  · rename_i z hz
    have es := of_decide_eq_true h2
    refine ⟨k, ha, z, hz, es, ?_⟩
    unfold pasThg
    rw [hz]
    exact if_pos es
  · cases h2
section
variable {P : Program} {w : World} {K : PySem.W.Frag} {mg : Str → Option Value} {base : Heap} {CL CS CT CR CP CW aS aR fS fT fR fP : Addr}
def spLawAnt (K : PySem.W.Frag) : Sp := fun vs H Q _ => ∃ (wd : Addr) (v : V) (W : WorldD) (o : Bool) (c : CaseD) (p : Nat), vs = [.ref wd, v, .int (p : Int)] ∧ WorldOk W ∧ WdAt K H wd W ∧ CaseG W o c ∧ Dp K H v (casePy c) ∧ p < W.pass.length ∧ Q (.bl (antB W c p)) H
theorem d_lant (B : Bt mg) (A : At K mg "_law_has_antenna" s__law_has_antenna ["world", "case", "p"]) : DefOk P w K mg base CX0 1 "_law_has_antenna" ["world", "case", "p"] (spLawAnt K) := by
  refine A.ok sc__law_has_antenna (fun vs H Q E h => ?_) (fun f cdv A outer s H vs Q E hr h => ?_)
  · obtain ⟨wd, v, W, o, c, p, rfl, _⟩ := h
    rfl
  obtain ⟨wd, v, W, o, c, p, rfl, wok, hwd, cg, hc, hp, q⟩ := h
  obtain ⟨t, tm, tt, xm, xt, rfl, ht, hm, htt, hxm, hxt, lm, lt⟩ := case_two hc
  obtain ⟨wa, wb, wc, we, xa, xb, xc, xd, g, a1, a2, b1, b2, c1, c2, e1, e2⟩ := hwd.ex
  have nT := cg.nT
  obtain ⟨z, hz⟩ : ∃ z, W.pass[p]? = some z := ⟨_, List.getElem?_eq_getElem hp⟩
  have zok := wok.pass z (List.mem_of_getElem? hz)
  obtain ⟨st, hst⟩ : ∃ st, W.stas[z.sta]? = some st := ⟨_, List.getElem?_eq_getElem zok.sta⟩
  obtain ⟨e, he⟩ : ∃ e, c.taken[p]? = some e := ⟨_, List.getElem?_eq_getElem (by omega)⟩
  obtain ⟨y, hy, dy⟩ := dpAll_get2 hxt he
  obtain ⟨vp, evp, dvp⟩ := dpAll_get2 e2 hz
  obtain ⟨tp, tp1, tp2, rfl, w1, _, _⟩ := pas_open dvp
  obtain ⟨vt, evt, dvt⟩ := dpAll_get2 b2 hst
  obtain ⟨tst, rfl, w2⟩ := sta_open dvt
  have an : antB W c p = match W.pass[p]?, c.taken[p]? with | some z, some (.ant n) => (match W.stas[z.sta]? with | some t => decide (0 ≤ n) && decide (n < t.antennas) | none => false) | _, _ => false := rfl
  rw [hz, he] at an
  refine ⟨_, pss_cons (ps_set (i := 3) sc__law_has_antenna.nd rfl (Or.inl rfl) (pe_ix ix_tup (pe_ix ix_tup (pv 1) pe_int (fun _ _ => rfl)) (pv 2) (fun _ _ => rfl)))
  (pss_one (ps_ret (pe_and (pe_cmpR op_notN (pv 3) pe_non (nomark _)) (pe_and (pe_cmpR op_ne (pv 3) pe_str (nomark _)) (pe_one (pe_chain op_le op_lt pe_int (pv 3) (pe_ix ix_tup (pe_ix ix_list (pe_dget (hu_of hr) (pv 0) pe_str (fun _ _ => rfl)) (pe_ix ix_tup (pe_ix ix_list (pe_dget (hu_of hr) (pv 0) pe_str (fun _ _ => rfl)) (pv 2) (fun _ _ => rfl)) pe_int (fun _ _ => rfl)) (fun _ _ => rfl)) pe_int (fun _ _ => rfl))))))))
    , ?_⟩
  refine ⟨_, rfl, t, _, 1, _, rfl, rfl, ht, rfl, _, rfl, tt, xt, (p : Int), y, rfl, rfl, htt, atI_nat hy, ?_⟩
  cases e with
  | non =>
    cases dy
    rw [show antB W c p = false from an] at q
    exact ⟨_, rfl, rfl, _, rfl, iteF' rfl q⟩
  | opn =>
    cases dy
    rw [show antB W c p = false from an] at q
    exact ⟨_, rfl, rfl, _, rfl, iteT' rfl ⟨_, rfl, rfl, _, rfl, iteF' (by decide +kernel) q⟩⟩
  | ant n =>
    cases dy
    rw [show antB W c p = (match W.stas[z.sta]? with | some t => decide (0 ≤ n) && decide (n < t.antennas) | none => false) from an, hst] at q
    refine ⟨_, rfl, rfl, _, rfl, iteT' rfl ⟨_, rfl, rfl, _, rfl, iteT' rfl ⟨_, rfl, _, _, rfl, rfl, _, rfl, ite2 (fun k1 => ?_) (fun k1 => ?_)⟩⟩⟩
    · refine ⟨_, rfl, wd, _, rfl, get_t g, _, rfl, wd, _, rfl, get_p g, _, rfl, we, xd, (p : Int), _, rfl, rfl, SqL.of e1, atI_nat evp, tp, _, 2, _, rfl, rfl, w1, rfl, wb, xb, (z.sta : Int), _, rfl, rfl, SqL.of b1, atI_nat evt, tst, _, 1, _, rfl, rfl, w2, rfl, _, _, rfl, rfl, ?_⟩
      dsimp only at q
      rw [show decide (0 ≤ n) = true from k1, Bool.true_and] at q
      exact q
    · dsimp only at q
      rw [show decide (0 ≤ n) = false from Bool.eq_false_iff.mpr k1, Bool.false_and] at q
      exact q
def spLawTaken (K : PySem.W.Frag) : Sp := fun vs H Q _ => ∃ (wd : Addr) (v : V) (W : WorldD) (o : Bool) (c : CaseD) (s : Nat), vs = [.ref wd, v, .int (s : Int)] ∧ WorldOk W ∧ WdAt K H wd W ∧ CaseG W o c ∧ Dp K H v (casePy c) ∧ ∀ D H', Same H H' → H D = none → H' D = some (.lst ((takS W c s W.pass.length).map fun (p : Nat) => V.int (p : Int))) → Q (.ref D) H'
theorem d_ltaken (B : Bt mg) (D_law_has_antenna : DefOk P w K mg base CX0 1 "_law_has_antenna" ["world", "case", "p"] (spLawAnt K)) (A : At K mg "_law_taken" s__law_taken ["world", "case", "s"]) : DefOk P w K mg base CX0 2 "_law_taken" ["world", "case", "s"] (spLawTaken K) := by
  refine A.ok sc__law_taken (fun vs H Q E h => ?_) (fun f cdv A outer s H vs Q E hr h => ?_)
  · obtain ⟨wd, v, W, o, c, n, rfl, _⟩ := h
    rfl
  obtain ⟨wd, v, W, o, c, n, rfl, wok, hwd, cg, hc, q⟩ := h
  obtain ⟨wa, wb, wc, we, xa, xb, xc, xd, g, a1, a2, b1, b2, c1, c2, e1, e2⟩ := hwd.ex
  have m2 := dpAll_len e2
  rw [List.length_map] at m2
  have nP := wok.nPass
  refine ⟨_, pss_one (ps_ret (pe_lc (own := [("p", 3)])  rfl sc__law_taken.nd (pi_range1 (by rfl) B.range (pa_cons (pe_callB (call_len_seq) (by rfl) B.len (by decide +kernel) (pa_cons (pe_dget (hu_of hr) (pv 0) pe_str (fun _ _ => rfl)) pa_nil)) pa_nil)) (blkOk_by (own := [("p", 3)]) (N := ["world", "case", "s", "p"]) (sc := defScope s__law_taken) (by decide +kernel)) (fun _ _ _ _ _ => pg_name (i := 3) sc__law_taken.nd rfl (Or.inl rfl)) (fun _ _ _ _ _ => pts_one (PW.pt (pw_and (pt_cmpR op_eq (pe_ix (ix_tupK (K := K) rfl) (pe_ix (ix_listK (K := K) rfl) (pe_dget (hu_of hr) (pv 0) pe_str (fun _ _ => rfl)) (pv 3) (fun _ _ => rfl)) pe_int (fun _ _ => rfl)) (pv 2) (nomark _)) (pw_and1 (pt_val (pe_f D_law_has_antenna (hr.mono (by omega)) pass0 (pa_cons (pv 0) (pa_cons (pv 1) (pa_cons (pv 3) pa_nil))))))))) (fun _ _ _ _ _ => (pv 3))))
    , ?_⟩
  refine ⟨_, rfl, wd, _, rfl, get_p g, we, xd, rfl, .inl (SqL.of e1), _, rfl, by omega, by omega, fun D hD => lc_range (lo := 0) (n := (xd.length : Int).toNat) (fun i H' => Same H H' ∧ H' D = some (.lst ((takS W c n i).map fun (p : Nat) => V.int (p : Int)))) ⟨same_new hD _, upd_same⟩ (fun i H1 hi hI => ?_) (fun H1 hI => ?_)⟩
  · obtain ⟨hs, hd⟩ := hI
    obtain ⟨z, hz⟩ : ∃ z, W.pass[i]? = some z := ⟨_, List.getElem?_eq_getElem (by omega)⟩
    obtain ⟨vp, evp, dvp⟩ := dpAll_get2 e2 hz
    obtain ⟨tp, tp1, tp2, rfl, w1, _, _⟩ := pas_open dvp
    have ll : (takS W c n i).length ≤ i := by
      unfold takS
      refine Nat.le_trans (List.length_filter_le _ _) ?_
      rw [List.length_range]
      exact Nat.le_refl _
    have ts : takS W c n (i + 1) = takS W c n i ++ if (satP W n i && antB W c i) = true then [i] else [] := by
      unfold takS
      rw [List.range_succ, List.filter_append, List.filter_cons, List.filter_nil]
      rfl
    have sp : satP W n i = decide (z.sat = n) := by
      unfold satP
      rw [hz]
    refine ⟨rfl, _, rfl, wd, _, rfl, get_p (hs _ _ g), _, rfl, we, xd, (i : Int), _, rfl, by rw [Int.zero_add], SqL.of (hs _ _ e1), atI_nat evp, tp, _, 1, _, rfl, rfl, Same.tup hs w1, rfl, _, rfl, rfl, _, rfl, ite2 (fun k1 => ?_) (fun k1 => ?_)⟩
    · have es : z.sat = n := by
        have := V.int.inj (of_decide_eq_true k1)
        omega
      refine ⟨_, rfl, _, rfl, _, rfl, wd, v, W, o, c, i, by rw [Int.zero_add]; rfl, wok, hwd.same hs, cg, dp_same hs hc, by omega, _, rfl, ite2 (fun k2 => ?_) (fun k2 => ?_)⟩
      · refine ⟨_, rfl, _, hd, by rw [List.length_map]; exact small1000 (by omega), same_at hD hs _, ?_⟩
        rw [upd_same, ts, sp, decide_eq_true es, k2, Bool.true_and, if_pos rfl, List.map_append, Int.zero_add]
        rfl
      · refine ⟨hs, ?_⟩
        rw [ts, Bool.eq_false_iff.mpr k2, Bool.and_false, if_neg Bool.false_ne_true, List.append_nil]
        exact hd
    · refine ⟨hs, ?_⟩
      rw [ts, sp, decide_eq_false (fun e => k1 (decide_eq_true (by rw [e]))), Bool.false_and, if_neg Bool.false_ne_true, List.append_nil]
      exact hd
  · obtain ⟨hs, hd⟩ := hI
    rw [show (xd.length : Int).toNat = W.pass.length by omega] at hd
    exact q D _ hs hD hd
end
end DP
namespace DP
open PySem PySem.Spec PyProof.Rows L2
def rGetL (K : PySem.W.Frag) : R2 := fun x y H Q => ∃ (p : Addr) (xs : List V) (i : Nat) (z : V), x = .ref p ∧ y = .int (i : Int) ∧ SqL K H p xs ∧ xs[i]? = some z ∧ Q z H
theorem pget_list {X : Cx} : PGet X (rGetL X.K) := by
  intro pins s σ H x y v u Q I rx ry h
  obtain ⟨p, xs, i, z, rfl, rfl, hq, he, q⟩ := h
  cases rx
  obtain ⟨t, rfl⟩ := ry
  obtain ⟨its, r, pl, hz⟩ := I.list hq
  obtain ⟨w, ew, rw'⟩ := r.get he
  have hl := r.length
  have hi := (List.getElem?_eq_some_iff.mp he).1
  have hn := line63
  exact wpAny_getItem_list pl.isList (by omega) (by omega) (by simpa using ew) ⟨z, H, I, rw', q⟩
end DP
namespace DP
open PySem PySem.Spec PyProof.Rows L2
abbrev s_store_used : Stmt := topS 61
theorem sc_store_used : FnScope ["world", "case", "number", "changes", "r", "start", "p", "recording", "_", "end", "used", "held", "change"] ["world", "case", "number"] (defScope s_store_used) := ⟨rfl, rfl, rfl, by decide +kernel, rfl, by decide +kernel, by decide +kernel⟩
abbrev Trip := Nat × Int × Int
def sizeT (W : WorldD) (q : Trip) : Int := ((W.recs[q.1]?).map (·.size)).getD 0
def finT (W : WorldD) (q : Trip) : Int := ((W.pass[q.2.2.toNat]?).map (·.fin)).getD 0
def usedL (W : WorldD) (l : List Trip) (m : Int) : Int := (l.map fun q => if q.2.1 ≤ m ∧ m < finT W q then sizeT W q else 0).sum
def usedW (W : WorldD) (c : CaseD) (s : Nat) (m : Int) : Int := usedL W (madeS W c s W.recs.length) m
def chI (W : WorldD) (l : List Trip) (j : Int) : Int := (l.map fun q => (if q.2.1 = j then sizeT W q else 0) - (if finT W q = j then sizeT W q else 0)).sum
def chL (W : WorldD) (l : List Trip) (h : Nat) : List V := (List.range h).map fun (m : Nat) => V.int (chI W l (m : Int))
def heldL (W : WorldD) (l : List Trip) (j : Int) : Int := (l.map fun q => (if q.2.1 < j then sizeT W q else 0) - (if finT W q < j then sizeT W q else 0)).sum
theorem chL_len (W : WorldD) (l : List Trip) (h : Nat) : (chL W l h).length = h := by unfold chL; rw [List.length_map, List.length_range]
theorem chL_at {W : WorldD} {l : List Trip} {h i : Nat} (hi : i < h) : (chL W l h)[i]? = some (.int (chI W l (i : Int))) := by
  unfold chL
  rw [List.getElem?_map, List.getElem?_range hi]
  rfl
theorem chI_snoc (W : WorldD) (l : List Trip) (q : Trip) (j : Int) : chI W (l ++ [q]) j = chI W l j + ((if q.2.1 = j then sizeT W q else 0) - (if finT W q = j then sizeT W q else 0)) := by
  unfold chI
  rw [List.map_append, List.sum_append]
  simp
theorem chL_set {W : WorldD} {l : List Trip} {h f e : Nat} {q : Trip} (hf : f < h) (he : e < h) (hfe : f < e) (k1 : q.2.1 = (f : Int)) (k2 : finT W q = (e : Int)) :
    ((chL W l h).set f (.int (chI W l (f : Int) + sizeT W q))).set e (.int (chI W l (e : Int) - sizeT W q)) = chL W (l ++ [q]) h := by
  refine List.ext_getElem? fun i => ?_
  by_cases c : i < h
  · rw [chL_at c, chI_snoc, k1, k2]
    by_cases e1 : e = i
    · subst e1
      rw [List.getElem?_set_self (by rw [List.length_set, chL_len]; exact c), if_neg (by omega), if_pos rfl]
      congr 2
      omega
    · rw [List.getElem?_set_ne e1]
      by_cases e2 : f = i
      · subst e2
        rw [List.getElem?_set_self (by rw [chL_len]; exact c), if_pos rfl, if_neg (by omega)]
        congr 2
        omega
      · rw [List.getElem?_set_ne e2, chL_at c, if_neg (by omega), if_neg (by omega)]
        congr 2
        omega
  · rw [List.getElem?_eq_none (by rw [List.length_set, List.length_set, chL_len]; omega), List.getElem?_eq_none (by rw [chL_len]; omega)]
theorem chL_zero (W : WorldD) (h : Nat) : (List.replicate h [V.int 0]).flatten = chL W [] h := by
  rw [List.flatten_replicate_singleton]
  unfold chL
  have e : (fun (m : Nat) => V.int (chI W [] (m : Int))) = fun _ => V.int 0 := by funext m; rfl
  rw [e, List.map_const', List.length_range]
theorem sum_add {α : Type} (f g : α → Int) : ∀ l : List α, (l.map f).sum + (l.map g).sum = (l.map fun a => f a + g a).sum
  | [] => rfl
  | a :: l => by
    rw [List.map_cons, List.map_cons, List.map_cons, List.sum_cons, List.sum_cons, List.sum_cons, ← sum_add f g l]
    omega
theorem sum_congr {α : Type} {f g : α → Int} {l : List α} (h : ∀ a ∈ l, f a = g a) : (l.map f).sum = (l.map g).sum := by rw [List.map_congr_left h]
theorem held_succ (W : WorldD) (l : List Trip) (j : Int) : heldL W l (j + 1) = heldL W l j + chI W l j := by
  unfold heldL chI
  rw [sum_add]
  refine sum_congr fun q _ => ?_
  have h1 : (if q.2.1 < j + 1 then sizeT W q else 0) = (if q.2.1 < j then sizeT W q else 0) + (if q.2.1 = j then sizeT W q else 0) := by
    by_cases a : q.2.1 < j
    · rw [if_pos a, if_pos (by omega), if_neg (by omega)]; omega
    · by_cases b : q.2.1 = j
      · rw [if_neg a, if_pos (by omega), if_pos b]; omega
      · rw [if_neg a, if_neg (by omega), if_neg b]; omega
  have h2 : (if finT W q < j + 1 then sizeT W q else 0) = (if finT W q < j then sizeT W q else 0) + (if finT W q = j then sizeT W q else 0) := by
    by_cases a : finT W q < j
    · rw [if_pos a, if_pos (by omega), if_neg (by omega)]; omega
    · by_cases b : finT W q = j
      · rw [if_neg a, if_pos (by omega), if_pos b]; omega
      · rw [if_neg a, if_neg (by omega), if_neg b]; omega
  rw [h1, h2]
  omega
/-- each starts at a minute, and ends behind it -/
def TripsOk (W : WorldD) (l : List Trip) : Prop := ∀ q ∈ l, 0 ≤ q.2.1 ∧ q.2.1 < finT W q ∧ finT W q ≤ W.horizon
theorem held_zero {W : WorldD} {l : List Trip} (h : TripsOk W l) : heldL W l 0 = 0 := by
  unfold heldL
  rw [sum_congr (g := fun _ => 0) fun q hq => ?_]
  · induction l with
    | nil => rfl
    | cons a l ih => rw [List.map_cons, List.sum_cons, ih fun q hq => h q (List.mem_cons_of_mem _ hq)]; rfl
  · have := h q hq
    rw [if_neg (by omega), if_neg (by omega)]
    rfl
theorem held_used {W : WorldD} {l : List Trip} (h : TripsOk W l) (m : Int) : heldL W l (m + 1) = usedL W l m := by
  unfold heldL usedL
  refine sum_congr fun q hq => ?_
  have := h q hq
  by_cases a : q.2.1 ≤ m
  · by_cases b : m < finT W q
    · rw [if_pos (by omega), if_neg (by omega), if_pos ⟨a, b⟩]; omega
    · rw [if_pos (by omega), if_pos (by omega), if_neg (fun z => b z.2)]; omega
  · rw [if_neg (by omega), if_neg (by omega), if_neg (fun z => a z.1)]; omega
theorem trips_made {W : WorldD} (wok : WorldOk W) (c : CaseD) (s n : Nat) : TripsOk W (madeS W c s n) := fun q hq => by
  obtain ⟨h1, _⟩ := List.mem_filter.mp hq
  obtain ⟨_, z, y, hz, hy, h0, ho⟩ := mem_made h1
  have zok := wok.recs z (List.mem_of_getElem? hz)
  have yok := wok.pass y (List.mem_of_getElem? hy)
  have k1 := zok.earliest
  have k2 := zok.length
  have k3 := yok.first
  have k4 := yok.fin
  have ef : finT W q = y.fin := by
    unfold finT
    rw [hy]
    rfl
  unfold isOpt okP at ho
  obtain ⟨o1, ho⟩ := Bool.and_eq_true_iff.mp ho
  obtain ⟨_, ho⟩ := Bool.and_eq_true_iff.mp ho
  obtain ⟨_, ho⟩ := Bool.and_eq_true_iff.mp ho
  obtain ⟨o2, _⟩ := Bool.and_eq_true_iff.mp ho
  have o1 := of_decide_eq_true o1
  have o2 := of_decide_eq_true o2
  rw [ef]
  omega
def usedsW (W : WorldD) (c : CaseD) (s : Nat) (n : Nat) : List Int := (List.range n).map fun (m : Nat) => usedW W c s (m : Int)
theorem cut_all {xs : List V} {h : Nat} (hl : xs.length = h + 1) : cutV xs none (some (h : Int)) = xs.take h := by
  unfold cutV
  have e1 : HT.sIx xs.length 0 none = 0 := rfl
  have e2 : HT.sIx xs.length xs.length (some (h : Int)) = h := by
    rw [hl]
    unfold HT.sIx
    first
      | (simp; done)
      | (split <;> omega)
      | (dsimp only; split <;> omega)
  rw [e1, e2, List.drop_zero, Nat.sub_zero]
theorem chL_take (W : WorldD) (l : List Trip) (h : Nat) : (chL W l (h + 1)).take h = chL W l h := by
  unfold chL
  rw [List.range_succ, List.map_append, List.take_left' (by rw [List.length_map, List.length_range])]
section
variable {P : Program} {w : World} {K : PySem.W.Frag} {mg : Str → Option Value} {base : Heap} {CL CS CT CR CP CW aS aR fS fT fR fP : Addr}
def spUsed (K : PySem.W.Frag) (CS CT CR CP CW : Addr) : Sp := fun vs H Q _ => ∃ (ac : Addr) (v : V) (W : WorldD) (o : Bool) (c : CaseD) (s : Nat), vs = [.ref ac, v, .int (s : Int)] ∧ WorldOk W ∧ WorldAt K CS CT CR CP CW H ac W ∧ CaseG W o c ∧ Dp K H v (casePy c) ∧ ∀ t H', Same H H' → SqT K H' t ((usedsW W c s W.horizon.toNat).map V.int) → Q (.ref t) H'
set_option maxHeartbeats 8000000 in
theorem d_used (T : TxtW K mg CL CS CT CR CP CW aS aR fS fT fR fP) (D_made_recordings : DefOk P w K mg base CX0 2 "made_recordings" ["world", "case"] (spMade K CS CT CR CP CW)) (A : At K mg "store_used" s_store_used ["world", "case", "number"]) : DefOk P w K mg base CX0 3 "store_used" ["world", "case", "number"] (spUsed K CS CT CR CP CW) := by
  have B := T.L.B
  refine A.ok sc_store_used (fun vs H Q E h => ?_) (fun f cdv A outer s H vs Q E hr h => ?_)
  · obtain ⟨ac, v, W, o, c, n, rfl, _⟩ := h
    rfl
  obtain ⟨ac, v, W, o, c, n, rfl, wok, hW, cg, hc, q⟩ := h
  obtain ⟨dx, t0, t1, t2, t3, x0, x1, x2, x3, gw, _, _, _, _, p2, q2, p3, q3⟩ := hW.ex
  have hh := wok.horizon
  refine ⟨_, pss_cons (ps_set (i := 3) sc_store_used.nd rfl (Or.inl rfl) (pe_op op_rep (pe_lst (pa_cons pe_int pa_nil)) (pe_op op_add (pe_fld (pv 0) rfl) pe_int)))
  (pss_cons (ps_for PassesOwn.never rfl (pi_list (pe_f D_made_recordings (hr.mono (by omega)) pass0 (pa_cons (pv 0) (pa_cons (pv 1) pa_nil)))) (pg_tup (by rfl) (pgs_cons (pg_name (i := 4) sc_store_used.nd rfl (Or.inl rfl)) (pgs_cons (pg_name (i := 5) sc_store_used.nd rfl (Or.inl rfl)) (pgs_cons (pg_name (i := 6) sc_store_used.nd rfl (Or.inl rfl)) (pgs_nil)))))
      (pss_cons (ps_set (i := 7) sc_store_used.nd rfl (Or.inl rfl) (pe_ix ix_tup (pe_fld (pv 0) rfl) (pv 4) (fun _ _ => rfl)))
      (pss_one (ps_if (pt_cmpR op_eq (pe_fld (pv 7) rfl) (pv 2) (nomark _))
          (pss_cons (ps_asg (pe_fld (pe_ix ix_tup (pe_fld (pv 0) rfl) (pv 6) (fun _ _ => rfl)) rfl) (pg_tup (by rfl) (pgs_cons (pg_name (i := 8) sc_store_used.nd rfl (Or.inl rfl)) (pgs_cons (pg_name (i := 9) sc_store_used.nd rfl (Or.inl rfl)) (pgs_nil)))))
          (pss_cons (ps_augS (pv 3) (pv 5) pget_list (pe_fld (pv 7) rfl) ip_add set_list)
          (pss_one (ps_augS (pv 3) (pv 9) pget_list (pe_fld (pv 7) rfl) ip_sub set_list))))
          (pss_nil)))))
  (pss_cons (ps_set (i := 10) sc_store_used.nd rfl (Or.inl rfl) (pe_lst pa_nil))
  (pss_cons (ps_set (i := 11) sc_store_used.nd rfl (Or.inl rfl) pe_int)
  (pss_cons (ps_for PassesOwn.never rfl (pi_list (pe_slice sl_list (pv 3) po_none (po_some (pe_fld (pv 0) rfl)))) (pg_name (i := 12) sc_store_used.nd rfl (Or.inl rfl))
      (pss_cons (ps_aug (i := 11) sc_store_used.nd rfl (Or.inl rfl) (pv 12) ip_add)
      (pss_one (ps_expr (pe_bm PySem.F.plainAttrs_list PySem.F.slot_list_append PySem.F.type_list_append mt_append (pv 10) (pa_cons (pv 11) pa_nil))))))
  (pss_one (ps_ret (pe_callTy (call_tuple_of) (by rfl) B.tuple (by decide +kernel) (pa_cons (pv 10) pa_nil))))))))
    , ?_⟩
  refine ⟨(by show 1 ≤ sizeLine; decide), fun p hp => ?_⟩
  have sp := same_new hp (.lst [.int 0])
  refine ⟨_, rfl, ac, CW, dx, _, _, rfl, sp _ _ gw, T.c_World.cl, T.n_World_horizon, lk_World_horizon, _, _, rfl, rfl, p, W.horizon + 1, [.int 0], rfl, rfl, upd_same, by omega, by omega, (by show 1 * _ ≤ _; rw [Nat.one_mul]; exact small (by omega)), fun D hD => ?_⟩
  rw [chL_zero W]
  have s1 := sp.trans (same_new hD (.lst (chL W [] (W.horizon + 1).toNat)))
  have nD := sp.free hD
  refine ⟨_, rfl, _, rfl, ac, v, W, o, c, rfl, wok, hW.same s1, cg, dp_same s1 hc, fun M H1 s2 nM hM => ?_⟩
  obtain ⟨xm, hM1, hM2⟩ := hM
  have lM := dpAll_len hM2
  rw [List.length_map] at lM
  have nMD : M ≠ D := fun z => by rw [z, upd_same] at nM; cases nM
  have hD1 := s2 _ _ (show (upd (upd H p (.lst [.int 0])) D (.lst (chL W [] (W.horizon + 1).toNat))) D = some (.lst (chL W [] (W.horizon + 1).toNat)) from upd_same)
  refine ⟨M, rfl, ⟨_, SqL.of hM1⟩, ?_⟩
  refine for_it (walk_list (K := K) (a := M) (xs := xm)) (fun i σ H' => ∃ y4 y5 y6 y7 y8 y9, σ = [some (.ref ac), some v, some (.int (n : Int)), some (.ref D), y4, y5, y6, y7, y8, y9, none, none, none] ∧ SameX D H1 H' ∧ H' D = some (.lst (chL W (((madeL W c W.recs.length).take i).filter fun q => satOf W n q.1) (W.horizon + 1).toNat))) ⟨none, none, none, none, none, none, rfl, SameX.refl _ _, hD1⟩ (fun i σ H' _ hI => ?_) (fun i v' σ H2 H3 hi hI hy => ?_) (fun σ H2 hI => ?_)
  · obtain ⟨y4, y5, y6, y7, y8, y9, rfl, hs, _⟩ := hI
    exact SqL.of (hs _ _ nMD hM1)
  · obtain ⟨y4, y5, y6, y7, y8, y9, rfl, hs, hDD⟩ := hI
    obtain ⟨rfl, hx⟩ := hy
    obtain ⟨q1, hq1, dq1⟩ := dpAll_get (dpAll_sx (noLs_map noL_trip _) hD1 hs hM2) hx
    obtain ⟨r0, z, y, hz, hy2, p0, ho⟩ := mem_made (List.mem_of_getElem? hq1)
    obtain ⟨tt, rfl, htt⟩ := dp_trip dq1
    have hsH := sx_same (s1.trans s2) nD hs
    obtain ⟨ob, od, hob, o1⟩ := rec_at q2 hz
    obtain ⟨pb, pd, ts, hpb, c1, c2⟩ := pas_at q3 hy2
    have ft : ((madeL W c W.recs.length).take (i + 1)).filter (fun q => satOf W n q.1) = ((madeL W c W.recs.length).take i).filter (fun q => satOf W n q.1) ++ if satOf W n q1.1 = true then [q1] else [] := by
      rw [List.take_add_one, hq1, Option.toList_some, List.filter_append, List.filter_cons, List.filter_nil]
    have sat1 : satOf W n q1.1 = decide (z.sat = n) := by
      unfold satOf
      rw [hz]
    refine ⟨tt, _, rfl, htt, rfl, _, _, rfl, _, _, rfl, _, _, rfl, rfl, ?_⟩
    refine ⟨_, rfl, ac, CW, dx, _, _, rfl, hsH _ _ gw, T.c_World.cl, T.n_World_recordings, lk_World_recordings, _, rfl, t2, x2, (q1.1 : Int), _, rfl, rfl, Same.tup hsH p2, atI_nat hob, ?_⟩
    refine ⟨_, rfl, ob, CR, od, _, _, rfl, hsH _ _ o1, T.c_Recording.cl, T.n_Recording_satellite, lk_Recording_satellite, _, rfl, rfl, _, rfl, ite2 (fun k1 => ?_) (fun k1 => ?_)⟩
    · have es : z.sat = n := by
        have := V.int.inj (of_decide_eq_true k1)
        omega
      have mS : q1 ∈ madeS W c n W.recs.length := List.mem_filter.mpr ⟨List.mem_of_getElem? hq1, by rw [sat1, decide_eq_true es]⟩
      obtain ⟨w0, w1, w2⟩ := trips_made wok c n W.recs.length q1 mS
      have ef : finT W q1 = y.fin := by
        unfold finT
        rw [hy2]
        rfl
      have ez : sizeT W q1 = z.size := by
        unfold sizeT
        rw [hz]
        rfl
      obtain ⟨fi, efi⟩ : ∃ fi : Nat, q1.2.1 = (fi : Int) := ⟨q1.2.1.toNat, by omega⟩
      obtain ⟨ei, eei⟩ : ∃ ei : Nat, y.fin = (ei : Int) := ⟨y.fin.toNat, by omega⟩
      have hf : fi < (W.horizon + 1).toNat := by omega
      have he : ei < (W.horizon + 1).toNat := by omega
      have ep : q1.2.2 = ((q1.2.2.toNat : Nat) : Int) := by omega
      generalize hL : ((madeL W c W.recs.length).take i).filter (fun q => satOf W n q.1) = L at hDD ft
      refine ⟨_, rfl, ac, CW, dx, _, _, rfl, hsH _ _ gw, T.c_World.cl, T.n_World_passes, lk_World_passes, _, rfl, t3, x3, _, _, rfl, rfl, Same.tup hsH p3, (by rw [ep]; exact atI_nat hpb), pb, CP, pd, _, _, rfl, hsH _ _ c1, T.c_Pass.cl, T.n_Pass_span, lk_Pass_span, ts, _, rfl, Same.tup hsH c2, rfl, _, _, rfl, _, _, rfl, rfl, ?_⟩
      have j1 : ixN (chL W L (W.horizon + 1).toNat).length (fi : Int) = some fi := by
        unfold ixN
        rw [chL_len, if_pos (by omega), if_pos (by omega)]
        congr 1
      rw [efi, eei]
      refine ⟨_, rfl, _, rfl, D, _, fi, _, rfl, rfl, SqL.of hDD, chL_at hf, _, rfl, ob, CR, od, _, _, rfl, hsH _ _ o1, T.c_Recording.cl, T.n_Recording_size, lk_Recording_size, _, _, rfl, rfl, D, _, _, fi, rfl, rfl, hDD, j1, ?_⟩
      have at2 : ((chL W L (W.horizon + 1).toNat).set fi (.int (chI W L (fi : Int) + z.size)))[ei]? = some (.int (chI W L (ei : Int))) := by
        rw [List.getElem?_set_ne (by omega), chL_at he]
      have j2 : ixN ((chL W L (W.horizon + 1).toNat).set fi (.int (chI W L (fi : Int) + z.size))).length (ei : Int) = some ei := by
        unfold ixN
        rw [List.length_set, chL_len, if_pos (by omega), if_pos (by omega)]
        congr 1
      have hs2 := hs.at_ (o := .lst ((chL W L (W.horizon + 1).toNat).set fi (.int (chI W L (fi : Int) + z.size))))
      have hsH2 := sx_same (s1.trans s2) nD hs2
      refine ⟨_, rfl, _, rfl, D, _, ei, _, rfl, rfl, SqL.of upd_same, at2, _, rfl, ob, CR, od, _, _, rfl, hsH2 _ _ o1, T.c_Recording.cl, T.n_Recording_size, lk_Recording_size, _, _, rfl, rfl, D, _, _, ei, rfl, rfl, upd_same, j2, ?_⟩
      refine ⟨_, _, _, _, _, _, rfl, hs2.at_, ?_⟩
      rw [upd_same, ft, sat1, decide_eq_true es, if_pos rfl, ← chL_set hf he (by omega) efi (by rw [ef]; exact eei), ez]
    · refine ⟨_, _, _, _, _, _, rfl, hs, ?_⟩
      rw [ft, sat1, decide_eq_false (fun e => k1 (decide_eq_true (by rw [e]))), if_neg Bool.false_ne_true, List.append_nil]
      exact hDD
  · obtain ⟨y4, y5, y6, y7, y8, y9, rfl, hs, hDD⟩ := hI
    rw [lM, List.take_length] at hDD
    have hsH := sx_same (s1.trans s2) nD hs
    refine ⟨Nat.zero_le _, fun U hU => ?_⟩
    have sU := hsH.trans (same_new hU (.lst []))
    have nU := hsH.free hU
    have hDU := same_new hU (.lst []) _ _ hDD
    have okT := trips_made wok c n W.recs.length
    have eh : (W.horizon + 1).toNat = W.horizon.toNat + 1 := by omega
    refine ⟨_, rfl, _, rfl, ac, CW, dx, _, _, rfl, sU _ _ gw, T.c_World.cl, T.n_World_horizon, lk_World_horizon, _, rfl, D, _, rfl, SqL.of hDU, fun X hX => ?_⟩
    have ec : cutV (chL W (madeS W c n W.recs.length) (W.horizon + 1).toNat) none (some W.horizon) = chL W (madeS W c n W.recs.length) W.horizon.toNat := by
      rw [eh, show W.horizon = ((W.horizon.toNat : Nat) : Int) by omega, Int.toNat_natCast, cut_all (by rw [chL_len]), chL_take]
    have sX := sU.trans (same_new hX (.lst (cutV (chL W (madeS W c n W.recs.length) (W.horizon + 1).toNat) none (some W.horizon))))
    have hUX := (same_new hX (.lst (cutV (chL W (madeS W c n W.recs.length) (W.horizon + 1).toNat) none (some W.horizon)))) _ _ (show (upd H2 U (.lst [])) U = some (.lst []) from upd_same)
    have nXU : X ≠ U := (ne_of_none (show (upd H2 U (.lst [])) U = some (.lst []) from upd_same) hX).symm
    have hXX : (upd (upd H2 U (.lst [])) X (.lst (cutV (chL W (madeS W c n W.recs.length) (W.horizon + 1).toNat) none (some W.horizon)))) X = some (.lst (chL W (madeS W c n W.recs.length) W.horizon.toNat)) := by
      rw [upd_same, ec]
    let H4 : Hp := upd (upd H2 U (.lst [])) X (.lst (cutV (chL W (madeS W c n W.recs.length) (W.horizon + 1).toNat) none (some W.horizon)))
    have hXX : H4 X = some (.lst (chL W (madeS W c n W.recs.length) W.horizon.toNat)) := hXX
    have hUX : H4 U = some (.lst []) := hUX
    have sX : Same H H4 := sX
    refine ⟨X, rfl, ⟨_, SqL.of hXX⟩, ?_⟩
    refine for_it (walk_list (K := K) (a := X) (xs := chL W (madeS W c n W.recs.length) W.horizon.toNat)) (fun i σ H' => ∃ y12, σ = [some (.ref ac), some v, some (.int (n : Int)), some (.ref D), y4, y5, y6, y7, y8, y9, some (.ref U), some (.int (heldL W (madeS W c n W.recs.length) (i : Int))), y12] ∧ SameX U H4 H' ∧ H' U = some (.lst ((usedsW W c n i).map V.int))) ⟨none, ?_, SameX.refl _ _, hUX⟩ (fun i σ H' _ hI => ?_) (fun i v' σ H5 H6 hi hI hy => ?_) (fun σ H5 hI => ?_)
    · rw [show heldL W (madeS W c n W.recs.length) ((0 : Nat) : Int) = 0 from held_zero okT]
      rfl
    · obtain ⟨y12, rfl, hx, _⟩ := hI
      exact SqL.of (hx _ _ nXU hXX)
    · obtain ⟨y12, rfl, hx, hUU⟩ := hI
      obtain ⟨rfl, hy⟩ := hy
      rw [chL_len] at hi
      rw [chL_at hi] at hy
      have ev := Option.some.inj hy
      subst ev
      have hsc := held_succ W (madeS W c n W.recs.length) (i : Int)
      refine ⟨_, rfl, _, rfl, _, _, rfl, rfl, ?_⟩
      refine ⟨_, rfl, .inl ⟨rfl, _, SqL.of hUU⟩, _, rfl, U, _, _, rfl, rfl, hUU, (by rw [List.length_map]; unfold usedsW; rw [List.length_map, List.length_range]; exact small1000 (by omega)), ?_⟩
      refine ⟨some (.int (chI W (madeS W c n W.recs.length) (i : Int))), ?_, hx.at_, ?_⟩
      · rw [show (((i + 1 : Nat)) : Int) = (i : Int) + 1 by omega, hsc]
        rfl
      · rw [upd_same]
        unfold usedsW
        rw [List.range_succ, List.map_append, List.map_append]
        show some (HO.lst (_ ++ [V.int (heldL W (madeS W c n W.recs.length) (i : Int) + chI W (madeS W c n W.recs.length) (i : Int))])) = some (HO.lst (_ ++ [V.int (usedW W c n (i : Int))]))
        rw [← hsc, held_used okT]
        rfl
    · obtain ⟨y12, rfl, hx, hUU⟩ := hI
      rw [chL_len] at hUU
      refine ⟨_, rfl, U, _, rfl, .inl ⟨SqL.of hUU, fun t ht => ?_⟩⟩
      exact q t _ ((sx_same sX nU hx).trans (same_new ht _)) (SqT.of upd_same)
end
end DP
namespace DP
open PySem PySem.Spec PyProof.Rows L2
abbrev s_is_made_entry : Stmt := topS 48
theorem sc_is_made_entry : FnScope ["world", "entry", "start", "p"] ["world", "entry"] (defScope s_is_made_entry) := ⟨rfl, rfl, rfl, by decide +kernel, rfl, by decide +kernel, by decide +kernel⟩
abbrev s_is_taken_entry : Stmt := topS 49
theorem sc_is_taken_entry : FnScope ["entry"] ["entry"] (defScope s_is_taken_entry) := ⟨rfl, rfl, rfl, by decide +kernel, rfl, by decide +kernel, by decide +kernel⟩
abbrev s_check_case : Stmt := topS 47
theorem sc_check_case : FnScope ["world", "case", "made", "taken", "entry"] ["world", "case"] (defScope s_check_case) := ⟨rfl, rfl, rfl, by decide +kernel, rfl, by decide +kernel, by decide +kernel⟩
section
variable {P : Program} {w : World} {K : PySem.W.Frag} {mg : Str → Option Value} {base : Heap} {CL CS CT CR CP CW aS aR fS fT fR fP : Addr}
def spIsMade (K : PySem.W.Frag) (CS CT CR CP CW : Addr) : Sp := fun vs H Q _ => ∃ (ac : Addr) (W : WorldD) (v : V) (e : EntM), vs = [.ref ac, v] ∧ WorldAt K CS CT CR CP CW H ac W ∧ MOk W true e ∧ Dp K H v (entM e) ∧ Q (.bl true) H
theorem d_is_made_entry (T : TxtW K mg CL CS CT CR CP CW aS aR fS fT fR fP) (TP : TxtO mg) (D_is_tuple_of : DefOk P w K mg base CX0 1 "is_tuple_of" ["thing", "many"] (spIsTup K)) (A : At K mg "is_made_entry" s_is_made_entry ["world", "entry"]) :
    DefOk P w K mg base CX0 2 "is_made_entry" ["world", "entry"] (spIsMade K CS CT CR CP CW) := by
  have B := T.L.B
  have TW := T
  refine A.ok sc_is_made_entry (fun vs H Q E h => ?_) (fun f cdv A outer s H vs Q E hr h => ?_)
  · obtain ⟨ac, W, v, e, rfl, _⟩ := h
    rfl
  obtain ⟨ac, W, v, e, rfl, hW, hok, hd, q⟩ := h
  obtain ⟨dx, t0, t1, t2, t3, x0, x1, x2, x3, gw, _, _, _, _, _, _, p3, q3⟩ := hW.ex
  have l3 := paired_len q3
  have T := TP
  refine ⟨_, pss_cons (ps_if (PW.pt (pw_or (pt_cmpR op_isN (pv 1) pe_non (nomark _)) (pw_or1 (pt_cmpR (op_eqD hr.units) (pv 1) (pe_gs T.g_OPEN) (nomark _)))))
      (pss_one (ps_ret pe_bl))
      (pss_nil))
  (pss_cons (ps_if (pt_not (pt_val (pe_f D_is_tuple_of (hr.mono (by omega)) pass0 (pa_cons (pv 1) (pa_cons pe_int pa_nil)))))
      (pss_one (ps_ret pe_bl))
      (pss_nil))
  (pss_cons (ps_asg (pv 1) (pg_tup (by rfl) (pgs_cons (pg_name (i := 2) sc_is_made_entry.nd rfl (Or.inl rfl)) (pgs_cons (pg_name (i := 3) sc_is_made_entry.nd rfl (Or.inl rfl)) (pgs_nil)))))
  (pss_one (ps_ret (pe_and (pe_callB (call_isi) (by rfl) B.isinstance (by decide +kernel) (pa_cons (pv 2) (pa_cons (pe_bltn (v := .ty "int") (u := .type "int") (by rfl) B.int (by decide +kernel) rfl) pa_nil))) (pe_and (pe_callB (call_isi) (by rfl) B.isinstance (by decide +kernel) (pa_cons (pv 3) (pa_cons (pe_bltn (v := .ty "int") (u := .type "int") (by rfl) B.int (by decide +kernel) rfl) pa_nil))) (pe_one (pe_chain op_le op_lt pe_int (pv 3) (pe_callB (call_len_seq) (by rfl) B.len (by decide +kernel) (pa_cons (pe_fld (pv 0) rfl) pa_nil))))))))))
    , ?_⟩
  have T := TW
  cases e with
  | non =>
    cases hd
    exact ⟨_, rfl, rfl, _, rfl, iteT' (decide_eq_true rfl) (iteT' rfl q)⟩
  | opn =>
    cases hd
    exact ⟨_, rfl, rfl, _, rfl, iteF' (decide_eq_false fun z => nomatch z) ⟨_, rfl, .str "open", .str "open", .str _, .str _, by decide +kernel, by decide +kernel, _, rfl, iteT' (by decide +kernel) q⟩⟩
  | at_ a p =>
    obtain ⟨t, xs, rfl, ht, hx⟩ := dp_tup hd
    have ex := dp_ints (ns := [a, p]) hx
    subst ex
    obtain ⟨_, _, p0, p1⟩ := hok
    refine ⟨_, rfl, rfl, _, rfl, iteF' (decide_eq_false fun z => nomatch z) ⟨_, rfl, entM (.at_ a p), .str "open", hd, .str _, rfl, by decide +kernel, _, rfl, iteF' rfl ?_⟩⟩
    refine ⟨_, rfl, t, _, 2, rfl, ht, _, rfl, iteF' (by show (!decide (V.int 2 = V.int 2)) = false; rw [decide_eq_true rfl]; rfl) ?_⟩
    refine ⟨_, rfl, t, _, rfl, ht, rfl, _, _, rfl, _, _, rfl, rfl, ?_⟩
    refine ⟨_, rfl, _, .ty "int", _, _, true, rfl, .ty "int", .base (.int a), kit_ty (by decide +kernel), true, rfl, iteT' rfl ⟨_, rfl, _, .ty "int", _, _, true, rfl, .ty "int", .base (.int p), kit_ty (by decide +kernel), true, rfl, iteT' rfl ?_⟩⟩
    refine ⟨_, rfl, _, _, rfl, rfl, _, rfl, iteT' (decide_eq_true p0) ⟨_, rfl, ac, CW, dx, _, _, rfl, gw, T.c_World.cl, T.n_World_passes, lk_World_passes, t3, x3, rfl, .inr p3, _, _, rfl, rfl, ?_⟩⟩
    show Q (.bl (decide (p < (x3.length : Int)))) H
    rw [decide_eq_true (by omega : p < (x3.length : Int))]
    exact q
def spIsTaken (K : PySem.W.Frag) : Sp := fun vs H Q _ => ∃ (v : V) (e : EntT), vs = [v] ∧ Dp K H v (entT e) ∧ Q (.bl true) H
theorem d_is_taken_entry (B : Bt mg) (TP : TxtO mg) (A : At K mg "is_taken_entry" s_is_taken_entry ["entry"]) : DefOk P w K mg base CX0 1 "is_taken_entry" ["entry"] (spIsTaken K) := by
  have T := TP
  refine A.ok sc_is_taken_entry (fun vs H Q E h => ?_) (fun f cdv A outer s H vs Q E hr h => ?_)
  · obtain ⟨v, e, rfl, _⟩ := h
    rfl
  obtain ⟨v, e, rfl, hd, q⟩ := h
  refine ⟨_, pss_one (ps_ret (pe_or (pe_cmpR op_isN (pv 0) pe_non (nomark _)) (pe_or (pe_cmpR (op_eqD hr.units) (pv 0) (pe_gs T.g_OPEN) (nomark _)) (pe_one (pe_callB (call_isi) (by rfl) B.isinstance (by decide +kernel) (pa_cons (pv 0) (pa_cons (pe_bltn (v := .ty "int") (u := .type "int") (by rfl) B.int (by decide +kernel) rfl) pa_nil)))))))
    , ?_⟩
  cases e with
  | non =>
    cases hd
    exact ⟨_, rfl, rfl, _, rfl, iteT' (decide_eq_true rfl) q⟩
  | opn =>
    cases hd
    exact ⟨_, rfl, rfl, _, rfl, iteF' (decide_eq_false fun z => nomatch z) ⟨_, rfl, .str "open", .str "open", .str _, .str _, by decide +kernel, by decide +kernel, _, rfl, iteT' (by decide +kernel) q⟩⟩
  | ant n =>
    cases hd
    exact ⟨_, rfl, rfl, _, rfl, iteF' (decide_eq_false fun z => nomatch z) ⟨_, rfl, .int n, .str "open", .int _, .str _, rfl, by decide +kernel, _, rfl, iteF' rfl ⟨_, rfl, _, .ty "int", _, _, true, rfl, .ty "int", .base (.int n), kit_ty (by decide +kernel), q⟩⟩⟩
def spCheckCase (K : PySem.W.Frag) (CS CT CR CP CW : Addr) : Sp := fun vs H Q _ => ∃ (ac : Addr) (W : WorldD) (v : V) (o : Bool) (c : CaseD), vs = [.ref ac, v] ∧ WorldOk W ∧ WorldAt K CS CT CR CP CW H ac W ∧ CaseG W o c ∧ Dp K H v (casePy c) ∧ ∀ H', Same H H' → Q .non H'
theorem mok_true {W : WorldD} {o : Bool} {e : EntM} (h : MOk W o e) : MOk W true e := by
  cases e with
  | non => trivial
  | opn => rfl
  | at_ s p => exact h
set_option maxHeartbeats 4000000 in
theorem d_check_case (T : TxtW K mg CL CS CT CR CP CW aS aR fS fT fR fP) (D_is_tuple_of : DefOk P w K mg base CX0 1 "is_tuple_of" ["thing", "many"] (spIsTup K)) (D_is_made_entry : DefOk P w K mg base CX0 2 "is_made_entry" ["world", "entry"] (spIsMade K CS CT CR CP CW))
    (D_is_taken_entry : DefOk P w K mg base CX0 1 "is_taken_entry" ["entry"] (spIsTaken K)) (A : At K mg "check_case" s_check_case ["world", "case"]) : DefOk P w K mg base CX0 3 "check_case" ["world", "case"] (spCheckCase K CS CT CR CP CW) := by
  have B := T.L.B
  refine A.ok sc_check_case (fun vs H Q E h => ?_) (fun f cdv A outer s H vs Q E hr h => ?_)
  · obtain ⟨ac, W, v, o, c, rfl, _⟩ := h
    rfl
  obtain ⟨ac, W, v, o, c, rfl, wok, hW, cg, hd, q⟩ := h
  obtain ⟨dx, t0, t1, t2, t3, x0, x1, x2, x3, gw, _, _, _, _, p2, q2, p3, q3⟩ := hW.ex
  have l2 := paired_len q2
  have l3 := paired_len q3
  obtain ⟨t, xs, rfl, ht, hx⟩ := dp_tup hd
  cases hx with
  | cons a0 hx =>
  cases hx with
  | cons a1 hx =>
  cases hx
  obtain ⟨tm, xm, rfl, hm, hxm⟩ := dp_tup a0
  obtain ⟨tt, xt, rfl, htt, hxt⟩ := dp_tup a1
  have lm := dpAll_len hxm
  have lt := dpAll_len hxt
  rw [List.length_map] at lm lt
  have nM := cg.nM
  have nT := cg.nT
  have nR := wok.nRecs
  have nP := wok.nPass
  refine ⟨_, pss_cons (ps_if (pt_not (pt_val (pe_f D_is_tuple_of (hr.mono (by omega)) pass0 (pa_cons (pv 1) (pa_cons pe_int pa_nil)))))
      (pss_one (ps_never))
      (pss_nil))
  (pss_cons (ps_asg (pv 1) (pg_tup (by rfl) (pgs_cons (pg_name (i := 2) sc_check_case.nd rfl (Or.inl rfl)) (pgs_cons (pg_name (i := 3) sc_check_case.nd rfl (Or.inl rfl)) (pgs_nil)))))
  (pss_cons (ps_if (pt_not (pt_val (pe_f D_is_tuple_of (hr.mono (by omega)) pass0 (pa_cons (pv 2) (pa_cons (pe_callB (call_len_seq) (by rfl) B.len (by decide +kernel) (pa_cons (pe_fld (pv 0) rfl) pa_nil)) pa_nil)))))
      (pss_one (ps_never))
      (pss_nil))
  (pss_cons (ps_if (pt_not (pt_val (pe_f D_is_tuple_of (hr.mono (by omega)) pass0 (pa_cons (pv 3) (pa_cons (pe_callB (call_len_seq) (by rfl) B.len (by decide +kernel) (pa_cons (pe_fld (pv 0) rfl) pa_nil)) pa_nil)))))
      (pss_one (ps_never))
      (pss_nil))
  (pss_cons (ps_if (pt_not (pt_val (pe_callB (cr_all rfl) (by rfl) B.all (by decide +kernel) (pa_cons (pe_lc (own := [("entry", 4)])  rfl sc_check_case.nd (pi_tup (pv 2)) (blkOk_by (own := [("entry", 4)]) (N := ["world", "case", "made", "taken", "entry"]) (sc := defScope s_check_case) (by decide +kernel)) (fun _ _ _ _ _ => pg_name (i := 4) sc_check_case.nd rfl (Or.inl rfl)) (fun _ _ _ _ _ => pts_nil) (fun _ _ _ _ _ => (pe_f D_is_made_entry (hr.mono (by omega)) pass0 (pa_cons (pv 0) (pa_cons (pv 4) pa_nil))))) pa_nil))))
      (pss_one (ps_never))
      (pss_nil))
  (pss_one (ps_if (pt_not (pt_val (pe_callB (cr_all rfl) (by rfl) B.all (by decide +kernel) (pa_cons (pe_lc (own := [("entry", 4)])  rfl sc_check_case.nd (pi_tup (pv 3)) (blkOk_by (own := [("entry", 4)]) (N := ["world", "case", "made", "taken", "entry"]) (sc := defScope s_check_case) (by decide +kernel)) (fun _ _ _ _ _ => pg_name (i := 4) sc_check_case.nd rfl (Or.inl rfl)) (fun _ _ _ _ _ => pts_nil) (fun _ _ _ _ _ => (pe_f D_is_taken_entry (hr.mono (by omega)) pass0 (pa_cons (pv 4) pa_nil)))) pa_nil))))
      (pss_one (ps_never))
      (pss_nil)))))))
    , ?_⟩
  refine ⟨_, rfl, t, _, 2, rfl, ht, _, rfl, iteF' (by show (!decide (V.int 2 = V.int 2)) = false; rw [decide_eq_true rfl]; rfl) ?_⟩
  refine ⟨_, rfl, t, _, rfl, ht, rfl, _, _, rfl, _, _, rfl, rfl, ?_⟩
  refine ⟨_, rfl, _, rfl, ac, CW, dx, _, _, rfl, gw, T.c_World.cl, T.n_World_recordings, lk_World_recordings, t2, x2, rfl, .inr p2, tm, xm, _, rfl, hm, _, rfl, iteF' (by rw [decide_eq_true (by rw [lm, l2, nM])]; rfl) ?_⟩
  refine ⟨_, rfl, _, rfl, ac, CW, dx, _, _, rfl, gw, T.c_World.cl, T.n_World_passes, lk_World_passes, t3, x3, rfl, .inr p3, tt, xt, _, rfl, htt, _, rfl, iteF' (by rw [decide_eq_true (by rw [lt, l3, nT])]; rfl) ?_⟩
  have allT : ∀ n : Nat, (!(List.replicate n true).all id) = false := fun n => by simp
  refine ⟨_, rfl, tm, rfl, ⟨_, hm⟩, fun D hD => lc_tup (K := K) (a := tm) (xs := xm) (fun i H' => Same H H' ∧ H' D = some (.lst ((List.replicate i true).map V.bl))) ⟨same_new hD _, upd_same⟩ (fun i H' _ h => Same.tup h.1 hm) (fun i x H1 hx hI => ?_) (fun H1 hI => ?_)⟩
  · obtain ⟨hs, hDD⟩ := hI
    obtain ⟨e, he, hde⟩ := dpAll_get hxm hx
    have hi : i < xm.length := (List.getElem?_eq_some_iff.mp hx).1
    refine ⟨rfl, _, rfl, _, rfl, ac, W, x, e, rfl, hW.same hs, mok_true (cg.mOk e (List.mem_of_getElem? he)), dp_same hs hde, _, hDD, ?_, same_at hD hs _, ?_⟩
    · rw [List.length_map, List.length_replicate]
      exact small1000 (by omega)
    · rw [upd_same, List.replicate_succ', List.map_append]
      rfl
  obtain ⟨s1, hDD⟩ := hI
  refine ⟨D, _, rfl, SqL.of hDD, _, rfl, iteF' (allT _) ?_⟩
  refine ⟨_, rfl, tt, rfl, ⟨_, Same.tup s1 htt⟩, fun D2 hD2 => lc_tup (K := K) (a := tt) (xs := xt) (fun i H' => Same H1 H' ∧ H' D2 = some (.lst ((List.replicate i true).map V.bl))) ⟨same_new hD2 _, upd_same⟩ (fun i H' _ h => Same.tup (s1.trans h.1) htt) (fun i x H2 hx hI => ?_) (fun H2 hI => ?_)⟩
  · obtain ⟨hs, hDD⟩ := hI
    obtain ⟨e, he, hde⟩ := dpAll_get hxt hx
    have hi : i < xt.length := (List.getElem?_eq_some_iff.mp hx).1
    refine ⟨rfl, _, rfl, x, e, rfl, dp_same (s1.trans hs) hde, _, hDD, ?_, same_at hD2 hs _, ?_⟩
    · rw [List.length_map, List.length_replicate]
      exact small1000 (by omega)
    · rw [upd_same, List.replicate_succ', List.map_append]
      rfl
  obtain ⟨s2, hDD2⟩ := hI
  exact ⟨D2, _, rfl, SqL.of hDD2, _, rfl, iteF' (allT _) (q _ (s1.trans s2))⟩
end
end DP
namespace DP
open PySem PySem.Spec PyProof.Rows L2
abbrev s_events_of : Stmt := topS 65
theorem sc_events_of : FnScope ["world", "case", "found", "r", "start", "_", "p", "first", "end", "minute", "kind", "number"] ["world", "case"] (defScope s_events_of) := ⟨rfl, rfl, rfl, by decide +kernel, rfl, by decide +kernel, by decide +kernel⟩
structure TxtF (K : PySem.W.Frag) (mg : Str → Option Value) (aWd : Addr) : Prop where
  g_RECORDED : ∃ t, mg "RECORDED" = some (.int 0 t)
  g_SENT : ∃ t, mg "SENT" = some (.int 1 t)
  g_RECORDS : ∃ t, mg "RECORDS" = some (.int 2 t)
  g_SENDS : ∃ t, mg "SENDS" = some (.int 3 t)
  g_WORDS : mg "WORDS" = some (.ref aWd)
  t_WORDS : ∀ H, SqT K H aWd ((["recorded", "sent", "records", "sends"] : List Str).map V.str)
  b_sorted : mg "sorted" = none
/-- an event: its minute, its kind, its number -/
abbrev Ev := Nat × Nat × Nat
def ev3 (e : Ev) : PyData := .tuple [.int (e.1 : Int), .int (e.2.1 : Int), .int (e.2.2 : Int)]
def wordN (k : Nat) : Str := ((["recorded", "sent", "records", "sends"] : List Str)[k]?).getD Str.empty
def evPy (e : Ev) : PyData := .tuple [.int (e.1 : Int), .str (wordN e.2.1), .int (e.2.2 : Int)]
theorem noL_ev3 (e : Ev) : noL (ev3 e) := by unfold ev3; simp [noL, noLs]
theorem noL_ev (e : Ev) : noL (evPy e) := by unfold evPy; simp [noL, noLs]
def recEv (W : WorldD) (q : Trip) : List Ev := match W.recs[q.1]? with
  | some z => [(q.2.1.toNat, 2, q.1), ((q.2.1 + z.length).toNat, 0, q.1)]
  | none => []
def pasEv (W : WorldD) (p : Nat) : List Ev := match W.pass[p]? with
  | some z => [(z.first.toNat, 3, p), (z.fin.toNat, 1, p)]
  | none => []
def eventsL (W : WorldD) (c : CaseD) : List Ev := (madeL W c W.recs.length).flatMap (recEv W) ++ (takL W c W.pass.length).flatMap (pasEv W)
/-- few numbers -/
def EvOk (e : Ev) : Prop := e.1 < 1000 ∧ e.2.1 < 4 ∧ e.2.2 < 1000
def evC (e : Ev) : Int := TS.code 1000 [(e.1 : Int), (e.2.1 : Int), (e.2.2 : Int)]
theorem word_at {k : Nat} (h : k < 4) : (((["recorded", "sent", "records", "sends"] : List Str).map V.str))[k]? = some (.str (wordN k)) := by
  match k, h with
  | 0, _ => rfl
  | 1, _ => rfl
  | 2, _ => rfl
  | 3, _ => rfl
  | k + 4, h => exact absurd h (by omega)
theorem flat_len2 {α β : Type} {g : α → List β} (h : ∀ a, (g a).length ≤ 2) : ∀ l : List α, (l.flatMap g).length ≤ 2 * l.length
  | [] => Nat.zero_le _
  | a :: l => by
    rw [List.flatMap_cons, List.length_append, List.length_cons]
    have := flat_len2 h l
    have := h a
    omega
theorem recEv_len (W : WorldD) (q : Trip) : (recEv W q).length ≤ 2 := by unfold recEv; split <;> simp
theorem pasEv_len (W : WorldD) (p : Nat) : (pasEv W p).length ≤ 2 := by unfold pasEv; split <;> simp
theorem ev_dp {K : PySem.W.Frag} {H : Hp} {v : V} {e : Ev} (h : Dp K H v (ev3 e)) : ∃ t, v = .ref t ∧ SqT K H t [.int (e.1 : Int), .int (e.2.1 : Int), .int (e.2.2 : Int)] := by
  obtain ⟨t, xs, rfl, ht, hx⟩ := dp_tup h
  have ex := dp_ints (ns := [(e.1 : Int), (e.2.1 : Int), (e.2.2 : Int)]) hx
  subst ex
  exact ⟨t, rfl, ht⟩
theorem perm_dp {K : PySem.W.Frag} {H : Hp} {α : Type} {f : α → PyData} {xs ys : List V} (p : xs.Perm ys) : ∀ {l : List α}, DpAll K H xs (l.map f) → ∃ l', l.Perm l' ∧ DpAll K H ys (l'.map f) := by
  induction p with
  | nil => exact fun {l} h => ⟨l, .refl _, h⟩
  | cons x p ih =>
    intro l h
    cases l with
    | nil => cases h
    | cons a l =>
      cases h with
      | cons h1 h2 =>
        obtain ⟨l', g1, g2⟩ := ih h2
        exact ⟨a :: l', g1.cons a, .cons h1 g2⟩
  | swap x y l0 =>
    intro l h
    match l, h with
    | a :: b :: l, .cons h1 (.cons h2 h3) => exact ⟨b :: a :: l, .swap _ _ _, .cons h2 (.cons h1 h3)⟩
  | trans p1 p2 i1 i2 =>
    intro l h
    obtain ⟨l1, g1, g2⟩ := i1 h
    obtain ⟨l2, k1, k2⟩ := i2 g2
    exact ⟨l2, g1.trans k1, k2⟩
theorem sorted_dp {K : PySem.W.Frag} {H : Hp} : ∀ {ys : List V} {l : List Ev}, DpAll K H ys (l.map ev3) → ys.Pairwise (fun x y => ∀ n m, TupI K H x n → TupI K H y m → TS.code 1000 n ≤ TS.code 1000 m) → l.Pairwise (fun a b => evC a ≤ evC b)
  | [], [], _, _ => .nil
  | y :: ys, a :: l, .cons h1 h2, p => by
    obtain ⟨p1, p2⟩ := List.pairwise_cons.mp p
    refine List.pairwise_cons.mpr ⟨fun b hb => ?_, sorted_dp h2 p2⟩
    obtain ⟨j, hj⟩ := List.getElem?_of_mem hb
    obtain ⟨z, hz, dz⟩ := dpAll_get2 h2 hj
    obtain ⟨t1, e1, s1⟩ := ev_dp h1
    obtain ⟨t2, e2, s2⟩ := ev_dp dz
    exact p1 z (List.mem_of_getElem? hz) _ _ ⟨t1, e1, s1⟩ ⟨t2, e2, s2⟩
theorem events_ok {W : WorldD} (wok : WorldOk W) (c : CaseD) : ∀ e ∈ eventsL W c, EvOk e := fun e he => by
  have hh := wok.horizon
  have nR := wok.nRecs
  have nP := wok.nPass
  unfold eventsL at he
  rcases List.mem_append.mp he with h | h
  · obtain ⟨q, hq, h⟩ := List.mem_flatMap.mp h
    obtain ⟨k, z, y, hz, hy, h0, ho⟩ := mem_made hq
    have zok := wok.recs z (List.mem_of_getElem? hz)
    have k1 := zok.earliest
    have k2 := zok.latest
    have k3 := zok.length
    unfold isOpt at ho
    obtain ⟨o1, ho⟩ := Bool.and_eq_true_iff.mp ho
    obtain ⟨o2, _⟩ := Bool.and_eq_true_iff.mp ho
    have o1 := of_decide_eq_true o1
    have o2 := of_decide_eq_true o2
    unfold recEv at h
    rw [hz] at h
    dsimp only at h
    rcases List.mem_cons.mp h with rfl | h
    · refine ⟨?_, ?_, ?_⟩ <;> dsimp only <;> omega
    · rw [List.mem_singleton.mp h]
      refine ⟨?_, ?_, ?_⟩ <;> dsimp only <;> omega
  · obtain ⟨p, hp, h⟩ := List.mem_flatMap.mp h
    have hlt := (mem_tak hp).1
    have hz : W.pass[p]? = some W.pass[p] := List.getElem?_eq_getElem hlt
    have zok := wok.pass _ (List.mem_of_getElem? hz)
    have k1 := zok.first
    have k2 := zok.fin
    unfold pasEv at h
    rw [hz] at h
    dsimp only at h
    rcases List.mem_cons.mp h with rfl | h
    · refine ⟨?_, ?_, ?_⟩ <;> dsimp only <;> omega
    · rw [List.mem_singleton.mp h]
      refine ⟨?_, ?_, ?_⟩ <;> dsimp only <;> omega
theorem events_len {W : WorldD} (wok : WorldOk W) (c : CaseD) : (eventsL W c).length ≤ 40 := by
  unfold eventsL
  rw [List.length_append]
  have h1 := flat_len2 (recEv_len W) (madeL W c W.recs.length)
  have h2 := flat_len2 (pasEv_len W) (takL W c W.pass.length)
  have h3 := madeL_len W c W.recs.length
  have h4 := takL_len W c W.pass.length
  have h5 := wok.nRecs
  have h6 := wok.nPass
  omega
section
variable {P : Program} {w : World} {K : PySem.W.Frag} {mg : Str → Option Value} {base : Heap} {CL CS CT CR CP CW aS aR fS fT fR fP aWd : Addr}
def spEvents (K : PySem.W.Frag) (CS CT CR CP CW : Addr) : Sp := fun vs H Q _ => ∃ (ac : Addr) (v : V) (W : WorldD) (o : Bool) (c : CaseD), vs = [.ref ac, v] ∧ WorldOk W ∧ WorldAt K CS CT CR CP CW H ac W ∧ CaseG W o c ∧ Dp K H v (casePy c) ∧
  ∀ t xs H' evs, Same H H' → SqT K H' t xs → DpAll K H' xs (evs.map evPy) → (eventsL W c).Perm evs → evs.Pairwise (fun a b => evC a ≤ evC b) → Q (.ref t) H'
set_option maxHeartbeats 8000000 in
theorem d_events (TW : TxtW K mg CL CS CT CR CP CW aS aR fS fT fR fP) (T : TxtF K mg aWd) (D_made_recordings : DefOk P w K mg base CX0 2 "made_recordings" ["world", "case"] (spMade K CS CT CR CP CW)) (D_taken_passes : DefOk P w K mg base CX0 2 "taken_passes" ["world", "case"] (spTaken K CS CT CR CP CW))
    (A : At K mg "events_of" s_events_of ["world", "case"]) : DefOk P w K mg base CX0 3 "events_of" ["world", "case"] (spEvents K CS CT CR CP CW) := by
  have B := TW.L.B
  refine A.ok sc_events_of (fun vs H Q E h => ?_) (fun f cdv A outer s H vs Q E hr h => ?_)
  · obtain ⟨ac, v, W, o, c, rfl, _⟩ := h
    rfl
  obtain ⟨ac, v, W, o, c, rfl, wok, hW, cg, hc, q⟩ := h
  obtain ⟨dx, t0, t1, t2, t3, x0, x1, x2, x3, gw, _, _, _, _, p2, q2, p3, q3⟩ := hW.ex
  have nR := wok.nRecs
  have nP := wok.nPass
  refine ⟨_, pss_cons (ps_set (i := 2) sc_events_of.nd rfl (Or.inl rfl) (pe_lst pa_nil))
  (pss_cons (ps_for PassesOwn.never rfl (pi_list (pe_f D_made_recordings (hr.mono (by omega)) pass0 (pa_cons (pv 0) (pa_cons (pv 1) pa_nil)))) (pg_tup (by rfl) (pgs_cons (pg_name (i := 3) sc_events_of.nd rfl (Or.inl rfl)) (pgs_cons (pg_name (i := 4) sc_events_of.nd rfl (Or.inl rfl)) (pgs_cons (pg_name (i := 5) sc_events_of.nd rfl (Or.inl rfl)) (pgs_nil)))))
      (pss_cons (ps_expr (pe_bm PySem.F.plainAttrs_list PySem.F.slot_list_append PySem.F.type_list_append mt_append (pv 2) (pa_cons (pe_tup (pa_cons (pv 4) (pa_cons (pe_gi T.g_RECORDS) (pa_cons (pv 3) pa_nil)))) pa_nil)))
      (pss_one (ps_expr (pe_bm PySem.F.plainAttrs_list PySem.F.slot_list_append PySem.F.type_list_append mt_append (pv 2) (pa_cons (pe_tup (pa_cons (pe_op op_add (pv 4) (pe_fld (pe_ix ix_tup (pe_fld (pv 0) rfl) (pv 3) (fun _ _ => rfl)) rfl)) (pa_cons (pe_gi T.g_RECORDED) (pa_cons (pv 3) pa_nil)))) pa_nil))))))
  (pss_cons (ps_for PassesOwn.never rfl (pi_list (pe_f D_taken_passes (hr.mono (by omega)) pass0 (pa_cons (pv 0) (pa_cons (pv 1) pa_nil)))) (pg_name (i := 6) sc_events_of.nd rfl (Or.inl rfl))
      (pss_cons (ps_asg (pe_fld (pe_ix ix_tup (pe_fld (pv 0) rfl) (pv 6) (fun _ _ => rfl)) rfl) (pg_tup (by rfl) (pgs_cons (pg_name (i := 7) sc_events_of.nd rfl (Or.inl rfl)) (pgs_cons (pg_name (i := 8) sc_events_of.nd rfl (Or.inl rfl)) (pgs_nil)))))
      (pss_cons (ps_expr (pe_bm PySem.F.plainAttrs_list PySem.F.slot_list_append PySem.F.type_list_append mt_append (pv 2) (pa_cons (pe_tup (pa_cons (pv 7) (pa_cons (pe_gi T.g_SENDS) (pa_cons (pv 6) pa_nil)))) pa_nil)))
      (pss_one (ps_expr (pe_bm PySem.F.plainAttrs_list PySem.F.slot_list_append PySem.F.type_list_append mt_append (pv 2) (pa_cons (pe_tup (pa_cons (pv 8) (pa_cons (pe_gi T.g_SENT) (pa_cons (pv 6) pa_nil)))) pa_nil)))))))
  (pss_one (ps_ret (pe_callTy (call_tuple_of) (by rfl) B.tuple (by decide +kernel) (pa_cons (pe_lc (own := [("minute", 9), ("kind", 10), ("number", 11)])  rfl sc_events_of.nd (pi_list (pe_callB (cr_sortT (d := 3) (B := 1000) (by decide)) (by rfl) T.b_sorted (by decide +kernel) (pa_cons (pv 2) pa_nil))) (blkOk_by (own := [("minute", 9), ("kind", 10), ("number", 11)]) (N := ["world", "case", "found", "r", "start", "_", "p", "first", "end", "minute", "kind", "number"]) (sc := defScope s_events_of) (by decide +kernel)) (fun _ _ _ _ _ => pg_tupK (K := K) (n := 3) rfl (by rfl) (pgs_cons (pg_name (i := 9) sc_events_of.nd rfl (Or.inl rfl)) (pgs_cons (pg_name (i := 10) sc_events_of.nd rfl (Or.inl rfl)) (pgs_cons (pg_name (i := 11) sc_events_of.nd rfl (Or.inl rfl)) (pgs_nil))))) (fun _ _ _ _ _ => pts_nil) (fun _ _ _ _ _ => (pe_tup (pa_cons (pv 9) (pa_cons (pe_ix (ix_tupK (K := K) rfl) (pe_ga T.g_WORDS) (pv 10) (fun _ _ => rfl)) (pa_cons (pv 11) pa_nil)))))) pa_nil))))))
    , ?_⟩
  refine ⟨Nat.zero_le _, fun D hD => ?_⟩
  have sD := same_new hD (.lst [])
  refine ⟨_, rfl, _, rfl, ac, v, W, o, c, rfl, wok, hW.same sD, cg, dp_same sD hc, fun M H1 s1 nM hM => ?_⟩
  obtain ⟨xm, hM1, hM2⟩ := hM
  have lM := dpAll_len hM2
  rw [List.length_map] at lM
  have hD1 := s1 _ _ (show (upd H D (.lst [])) D = some (.lst []) from upd_same)
  have nDM : M ≠ D := fun z => by rw [z, upd_same] at nM; cases nM
  have el : ∀ i, (((madeL W c W.recs.length).take i).flatMap (recEv W)).length ≤ 20 := fun i => by
    have h1 := flat_len2 (recEv_len W) ((madeL W c W.recs.length).take i)
    have h2 := madeL_len W c W.recs.length
    rw [List.length_take] at h1
    omega
  refine ⟨M, rfl, ⟨_, SqL.of hM1⟩, ?_⟩
  refine for_it (walk_list (K := K) (a := M) (xs := xm)) (fun i σ H' => ∃ y3 y4 y5, σ = [some (.ref ac), some v, some (.ref D), y3, y4, y5, none, none, none, none, none, none] ∧ SameX D H1 H' ∧ DL K ev3 H' D (((madeL W c W.recs.length).take i).flatMap (recEv W))) ⟨none, none, none, rfl, SameX.refl _ _, [], hD1, .nil⟩ (fun i σ H' _ hI => ?_) (fun i v' σ H2 H3 hi hI hy => ?_) (fun σ H2 hI => ?_)
  · obtain ⟨y3, y4, y5, rfl, hs, _⟩ := hI
    exact SqL.of (hs _ _ nDM hM1)
  · obtain ⟨y3, y4, y5, rfl, hs, hd⟩ := hI
    obtain ⟨rfl, hx⟩ := hy
    obtain ⟨q1, hq1, dq1⟩ := dpAll_get (dpAll_sx (noLs_map noL_trip _) hD1 hs hM2) hx
    obtain ⟨r0, z, y, hz, hy2, p0, ho⟩ := mem_made (List.mem_of_getElem? hq1)
    obtain ⟨tt, rfl, htt⟩ := dp_trip dq1
    have zok := wok.recs z (List.mem_of_getElem? hz)
    have k1 := zok.earliest
    have k3 := zok.length
    unfold isOpt at ho
    have o1 := of_decide_eq_true (Bool.and_eq_true_iff.mp ho).1
    have ft := fm_take (g := recEv W) hq1
    have rt : recEv W q1 = [(q1.2.1.toNat, 2, q1.1), ((q1.2.1 + z.length).toNat, 0, q1.1)] := by
      unfold recEv
      rw [hz]
    have l0 := el i
    refine ⟨tt, _, rfl, htt, rfl, _, _, rfl, _, _, rfl, _, _, rfl, rfl, ?_⟩
    obtain ⟨xs0, hx0, _⟩ := id hd
    refine ⟨_, rfl, .inl ⟨rfl, _, SqL.of hx0⟩, _, rfl, _, rfl, (by show 3 ≤ sizeLine; decide), fun a1 h1 => ?_⟩
    have b1 := same_new h1 (.tup [.int q1.2.1, .int 2, .int (q1.1 : Int)])
    have tv : Dp K (upd H3 a1 (.tup [.int q1.2.1, .int 2, .int (q1.1 : Int)])) (.ref a1) (ev3 (q1.2.1.toNat, 2, q1.1)) := .tup (SqT.of (by rw [upd_same, show ((q1.2.1.toNat : Nat) : Int) = q1.2.1 by omega]; rfl)) (.cons (.int _) (.cons (.int _) (.cons (.int _) .nil)))
    obtain ⟨xs, g1, g2, g3⟩ := (hd.same b1).push noL_ev3 tv (by omega)
    refine ⟨D, xs, _, rfl, rfl, g1, g2, ?_⟩
    have hs2 := (hs.trans (SameX.of b1)).at_ (o := .lst (xs ++ [.ref a1]))
    have hsH := sx_same (sD.trans s1) hD hs2
    generalize upd (upd H3 a1 (.tup [.int q1.2.1, .int 2, .int (q1.1 : Int)])) D (.lst (xs ++ [.ref a1])) = H4 at g3 hs2 hsH
    obtain ⟨ob, od, hob, o1'⟩ := rec_at q2 hz
    obtain ⟨xs4, hx4, _⟩ := id g3
    refine ⟨_, rfl, .inl ⟨rfl, _, SqL.of hx4⟩, _, rfl, _, rfl, ac, CW, dx, _, _, rfl, hsH _ _ gw, TW.c_World.cl, TW.n_World_recordings, lk_World_recordings, _, rfl, t2, x2, (q1.1 : Int), _, rfl, rfl, Same.tup hsH p2, atI_nat hob, ob, CR, od, _, _, rfl, hsH _ _ o1', TW.c_Recording.cl, TW.n_Recording_length, lk_Recording_length, _, _, rfl, rfl, _, rfl, (by show 3 ≤ sizeLine; decide), fun a2 h2 => ?_⟩
    have b2 := same_new h2 (.tup [.int (q1.2.1 + z.length), .int 0, .int (q1.1 : Int)])
    have tv2 : Dp K (upd H4 a2 (.tup [.int (q1.2.1 + z.length), .int 0, .int (q1.1 : Int)])) (.ref a2) (ev3 ((q1.2.1 + z.length).toNat, 0, q1.1)) := .tup (SqT.of (by rw [upd_same, show (((q1.2.1 + z.length).toNat : Nat) : Int) = q1.2.1 + z.length by omega]; rfl)) (.cons (.int _) (.cons (.int _) (.cons (.int _) .nil)))
    obtain ⟨ys, u1, u2, u3⟩ := (g3.same b2).push noL_ev3 tv2 (by rw [List.length_append, List.length_singleton]; omega)
    refine ⟨D, ys, _, rfl, rfl, u1, u2, _, _, _, rfl, (hs2.trans (SameX.of b2)).at_, ?_⟩
    rw [ft, rt, show [(q1.2.1.toNat, 2, q1.1), ((q1.2.1 + z.length).toNat, 0, q1.1)] = [((q1.2.1.toNat, 2, q1.1) : Ev)] ++ [((q1.2.1 + z.length).toNat, 0, q1.1)] from rfl, ← List.append_assoc]
    exact u3
  · obtain ⟨y3, y4, y5, rfl, hs, hd⟩ := hI
    rw [lM, List.take_length] at hd
    have hsH := sx_same (sD.trans s1) hD hs
    refine ⟨_, rfl, _, rfl, ac, v, W, o, c, rfl, wok, hW.same hsH, cg, dp_same hsH hc, fun N H3 s3 nN hN => ?_⟩
    have hd3 := hd.same s3
    have nDN : N ≠ D := fun z => by
      obtain ⟨ys2, hD2, _⟩ := id hd
      rw [z, hD2] at nN
      cases nN
    have tl := takL_len W c W.pass.length
    have hs3 := hsH.trans s3
    have l1 := el (madeL W c W.recs.length).length
    rw [List.take_length] at l1
    refine ⟨N, rfl, ⟨_, SqL.of hN⟩, ?_⟩
    refine for_it (walk_list (K := K) (a := N) (xs := (takL W c W.pass.length).map fun (p : Nat) => V.int (p : Int))) (fun i σ H' => ∃ y6 y7 y8, σ = [some (.ref ac), some v, some (.ref D), y3, y4, y5, y6, y7, y8, none, none, none] ∧ SameX D H3 H' ∧ DL K ev3 H' D ((madeL W c W.recs.length).flatMap (recEv W) ++ ((takL W c W.pass.length).take i).flatMap (pasEv W))) ⟨none, none, none, rfl, SameX.refl _ _, (by show DL K ev3 H3 D (_ ++ []); rw [List.append_nil]; exact hd3)⟩ (fun i σ H' _ hI => ?_) (fun i v' σ H4 H5 hi hI hy => ?_) (fun σ H4 hI => ?_)
    · obtain ⟨y6, y7, y8, rfl, hx, _⟩ := hI
      exact SqL.of (hx _ _ nDN hN)
    · obtain ⟨y6, y7, y8, rfl, hx, hd⟩ := hI
      obtain ⟨rfl, hy⟩ := hy
      rw [List.getElem?_map] at hy
      cases hp : (takL W c W.pass.length)[i]? with
      | none => rw [hp] at hy; cases hy
      | some p =>
        rw [hp] at hy
        have ev : V.int (p : Int) = v' := Option.some.inj hy
        subst ev
        have hlt := (mem_tak (List.mem_of_getElem? hp)).1
        obtain ⟨z, hz⟩ : ∃ z, W.pass[p]? = some z := ⟨_, List.getElem?_eq_getElem hlt⟩
        have zok := wok.pass z (List.mem_of_getElem? hz)
        have k1 := zok.first
        have k2 := zok.fin
        have hsA := sx_same hs3 hD hx
        obtain ⟨pb, pd, ts, hpb, c1, c2⟩ := pas_at q3 hz
        have ft := fm_take (g := pasEv W) hp
        have rt : pasEv W p = [(z.first.toNat, 3, p), (z.fin.toNat, 1, p)] := by
          unfold pasEv
          rw [hz]
        have l2 := flat_len2 (pasEv_len W) ((takL W c W.pass.length).take i)
        rw [List.length_take] at l2
        refine ⟨_, rfl, ac, CW, dx, _, _, rfl, hsA _ _ gw, TW.c_World.cl, TW.n_World_passes, lk_World_passes, _, rfl, t3, x3, (p : Int), _, rfl, rfl, Same.tup hsA p3, atI_nat hpb, pb, CP, pd, _, _, rfl, hsA _ _ c1, TW.c_Pass.cl, TW.n_Pass_span, lk_Pass_span, ts, _, rfl, Same.tup hsA c2, rfl, _, _, rfl, _, _, rfl, rfl, ?_⟩
        obtain ⟨xs0, hx0, _⟩ := id hd
        refine ⟨_, rfl, .inl ⟨rfl, _, SqL.of hx0⟩, _, rfl, _, rfl, (by show 3 ≤ sizeLine; decide), fun a1 h1 => ?_⟩
        have b1 := same_new h1 (.tup [.int z.first, .int 3, .int (p : Int)])
        have tv : Dp K (upd H5 a1 (.tup [.int z.first, .int 3, .int (p : Int)])) (.ref a1) (ev3 (z.first.toNat, 3, p)) := .tup (SqT.of (by rw [upd_same, show ((z.first.toNat : Nat) : Int) = z.first by omega]; rfl)) (.cons (.int _) (.cons (.int _) (.cons (.int _) .nil)))
        obtain ⟨xs, g1, g2, g3⟩ := (hd.same b1).push noL_ev3 tv (by rw [List.length_append]; omega)
        refine ⟨D, xs, _, rfl, rfl, g1, g2, ?_⟩
        have hs2 := (hx.trans (SameX.of b1)).at_ (o := .lst (xs ++ [.ref a1]))
        generalize upd (upd H5 a1 (.tup [.int z.first, .int 3, .int (p : Int)])) D (.lst (xs ++ [.ref a1])) = H6 at g3 hs2
        obtain ⟨xs4, hx4, _⟩ := id g3
        refine ⟨_, rfl, .inl ⟨rfl, _, SqL.of hx4⟩, _, rfl, _, rfl, (by show 3 ≤ sizeLine; decide), fun a2 h2 => ?_⟩
        have b2 := same_new h2 (.tup [.int z.fin, .int 1, .int (p : Int)])
        have tv2 : Dp K (upd H6 a2 (.tup [.int z.fin, .int 1, .int (p : Int)])) (.ref a2) (ev3 (z.fin.toNat, 1, p)) := .tup (SqT.of (by rw [upd_same, show ((z.fin.toNat : Nat) : Int) = z.fin by omega]; rfl)) (.cons (.int _) (.cons (.int _) (.cons (.int _) .nil)))
        obtain ⟨ys, u1, u2, u3⟩ := (g3.same b2).push noL_ev3 tv2 (by rw [List.length_append, List.length_append, List.length_singleton]; omega)
        refine ⟨D, ys, _, rfl, rfl, u1, u2, _, _, _, rfl, (hs2.trans (SameX.of b2)).at_, ?_⟩
        rw [ft, rt, show [(z.first.toNat, 3, p), (z.fin.toNat, 1, p)] = [((z.first.toNat, 3, p) : Ev)] ++ [(z.fin.toNat, 1, p)] from rfl, ← List.append_assoc, ← List.append_assoc]
        exact u3
    · obtain ⟨y6, y7, y8, rfl, hx, hd⟩ := hI
      rw [List.length_map, List.take_length] at hd
      have hsA := sx_same hs3 hD hx
      obtain ⟨xe, hDe, dDe⟩ := id hd
      have le := dpAll_len dDe
      rw [List.length_map] at le
      have lq := events_len wok c
      have leq : xe.length = (eventsL W c).length := le
      have okE := events_ok wok c
      refine ⟨_, rfl, D, xe, rfl, SqL.of hDe, by omega, fun x hx => ?_, fun ys p perm srt hp => ?_⟩
      · obtain ⟨j, hj⟩ := List.getElem?_of_mem hx
        obtain ⟨e, he, de⟩ := dpAll_get dDe hj
        obtain ⟨t, rfl, ht⟩ := ev_dp de
        obtain ⟨e1, e2, e3⟩ := okE e (List.mem_of_getElem? he)
        refine ⟨[(e.1 : Int), (e.2.1 : Int), (e.2.2 : Int)], ⟨t, rfl, ht⟩, rfl, fun m hm => ?_⟩
        rcases List.mem_cons.mp hm with rfl | hm
        · omega
        · rcases List.mem_cons.mp hm with rfl | hm
          · omega
          · rw [List.mem_singleton.mp hm]
            omega
      obtain ⟨l', pl, dl⟩ := perm_dp perm.symm dDe
      have srt' := sorted_dp dl srt
      have ll := dpAll_len dl
      rw [List.length_map] at ll
      have ll2 : l'.length ≤ 40 := by
        rw [← pl.length_eq]
        exact lq
      have sp := same_new hp (.lst ys)
      refine ⟨p, rfl, ⟨_, SqL.of upd_same⟩, fun U hU => lc_it (walk_list (K := K) (a := p) (xs := ys)) (fun i H' => Same (upd H4 p (.lst ys)) H' ∧ DL K evPy H' U (l'.take i)) ⟨same_new hU _, DL.nil⟩ (fun i H' _ hI => SqL.of (hI.1 _ _ upd_same)) (fun i x H6 H7 hi hI hy => ?_) (fun H6 hI => ?_)⟩
      · obtain ⟨hs, hd⟩ := hI
        obtain ⟨rfl, hx⟩ := hy
        obtain ⟨e, he, de⟩ := dpAll_get (dpAll_same (sp.trans hs) dl) hx
        obtain ⟨t, rfl, ht⟩ := ev_dp de
        obtain ⟨e1, e2, e3⟩ := okE e (pl.mem_iff.mpr (List.mem_of_getElem? he))
        refine ⟨t, _, rfl, ht, rfl, _, _, rfl, _, _, rfl, _, _, rfl, rfl, rfl, ?_⟩
        refine ⟨_, rfl, _, rfl, aWd, _, _, _, rfl, rfl, T.t_WORDS _, atI_nat (word_at e2), _, rfl, (by show 3 ≤ sizeLine; decide), fun t3 h3 => ?_⟩
        have b3 := same_new h3 (.tup [.int (e.1 : Int), .str (wordN e.2.1), .int (e.2.2 : Int)])
        obtain ⟨xs, g1, g2, g3⟩ := (hd.same b3).push (a := e) noL_ev (.tup (SqT.of upd_same) (.cons (.int _) (.cons (.str _) (.cons (.int _) .nil)))) (by rw [List.length_take]; omega)
        refine ⟨xs, g1, g2, same_at hU (hs.trans b3) _, ?_⟩
        rw [take_snoc he]
        exact g3
      · obtain ⟨hs, hd⟩ := hI
        rw [ll, List.take_length] at hd
        obtain ⟨xs, hU1, hU2⟩ := hd
        refine ⟨U, xs, rfl, .inl ⟨SqL.of hU1, fun t ht => ?_⟩⟩
        exact q t xs _ l' (hsA.trans (sp.trans (hs.trans (same_new ht _)))) (SqT.of upd_same) (dpAll_same (same_new ht _) hU2) pl srt'
end
end DP
namespace DP
open PySem PySem.Spec PyProof.Rows L2
abbrev s_Flight___init__ : Stmt := inClass (topS 66) 0
theorem sc_Flight___init__ : FnScope ["self", "world", "case", "numbers", "number"] ["self", "world", "case"] (defScope s_Flight___init__) := ⟨rfl, rfl, rfl, by decide +kernel, rfl, by decide +kernel, by decide +kernel⟩
structure TxtFl (K : PySem.W.Frag) (mg : Str → Option Value) (CF : Addr) : Prop where
  c : ClsAt K mg "Flight" CF
  n_used : NoAttr K CF "used"
  n_levels : NoAttr K CF "levels"
  n_events : NoAttr K CF "events"
def usedPy (W : WorldD) (c : CaseD) (s : Nat) : PyData := .tuple ((usedsW W c s W.horizon.toNat).map PyData.int)
def levPy (W : WorldD) (c : CaseD) (s : Nat) : PyData := match W.sats[s]? with
  | some z => .tuple ((levelsW W c s z W.horizon.toNat).map PyData.int)
  | none => .tuple []
theorem noLs_ints : ∀ l : List Int, noLs (l.map PyData.int)
  | [] => by show noLs []; unfold noLs; trivial
  | a :: r => by
    show noLs (PyData.int a :: r.map PyData.int)
    unfold noLs
    exact ⟨by unfold noL; trivial, noLs_ints r⟩
theorem noL_ints (l : List Int) : noL (.tuple (l.map PyData.int)) := by
  unfold noL
  exact noLs_ints l
theorem noL_used (W : WorldD) (c : CaseD) (s : Nat) : noL (usedPy W c s) := noL_ints _
theorem noL_lev (W : WorldD) (c : CaseD) (s : Nat) : noL (levPy W c s) := by
  unfold levPy
  split
  · exact noL_ints _
  · exact noL_ints []
theorem dp_intsT {K : PySem.W.Frag} {H : Hp} : ∀ (ns : List Int), DpAll K H (ns.map V.int) (ns.map PyData.int)
  | [] => .nil
  | n :: r => .cons (.int n) (dp_intsT r)
theorem DL.up {α : Type} {K : PySem.W.Frag} {f : α → PyData} {H : Hp} {D D' : Addr} {l : List α} {ys : List V} {o : HO} (nf : ∀ a, noL (f a)) (h : DL K f H D l) (e : H D' = some (.lst ys)) (n : D ≠ D') : DL K f (upd H D' o) D l := by
  obtain ⟨xs, h1, h2⟩ := h
  exact ⟨xs, by rw [upd_ne n]; exact h1, dpTs_up (noLs_map nf l) e h2⟩
section
variable {P : Program} {w : World} {K : PySem.W.Frag} {mg : Str → Option Value} {base : Heap} {CL CS CT CR CP CW aS aR fS fT fR fP CF : Addr}
def flF (tu tl te : Addr) : List (Str × V) := [("used", .ref tu), ("levels", .ref tl), ("events", .ref te)]
def spFlight (K : PySem.W.Frag) (CS CT CR CP CW CF : Addr) : Sp := fun vs H Q _ => ∃ (x dx0 ac : Addr) (v : V) (W : WorldD) (o : Bool) (c : CaseD), vs = [.ref x, .ref ac, v] ∧ H x = some (.ins CF dx0 []) ∧ WorldOk W ∧ WorldAt K CS CT CR CP CW H ac W ∧ CaseG W o c ∧ Dp K H v (casePy c) ∧
  ∀ tu tl te xe evs H', SameX x H H' → H' x = some (.ins CF dx0 (flF tu tl te)) → Dp K H' (.ref tu) (.tuple ((List.range W.sats.length).map (usedPy W c))) → Dp K H' (.ref tl) (.tuple ((List.range W.sats.length).map (levPy W c))) →
    SqT K H' te xe → DpAll K H' xe (evs.map evPy) → (eventsL W c).Perm evs → evs.Pairwise (fun a b => evC a ≤ evC b) → Q .non H'
set_option maxHeartbeats 8000000 in
theorem dI_Flight (T : TxtW K mg CL CS CT CR CP CW aS aR fS fT fR fP) (TF : TxtFl K mg CF) (D_check_case : DefOk P w K mg base CX0 3 "check_case" ["world", "case"] (spCheckCase K CS CT CR CP CW)) (D_store_used : DefOk P w K mg base CX0 3 "store_used" ["world", "case", "number"] (spUsed K CS CT CR CP CW))
    (D_battery_levels : DefOk P w K mg base CX0 5 "battery_levels" ["world", "case", "number"] (spLevels K CS CT CR CP CW)) (D_events_of : DefOk P w K mg base CX0 3 "events_of" ["world", "case"] (spEvents K CS CT CR CP CW))
    (A : MAt K CF "__init__" "Flight.__init__" s_Flight___init__ ["self", "world", "case"]) : MDef P w K mg base CX0 6 CF "__init__" ["self", "world", "case"] [] (spFlight K CS CT CR CP CW CF) := by
  have B := T.L.B
  refine A.ok sc_Flight___init__ (fun vs H Q E h => ?_) (fun f cdv A outer s H vs Q E hr h => ?_)
  · obtain ⟨x, dx0, ac, v, W, o, c, rfl, _⟩ := h
    rfl
  obtain ⟨x, dx0, ac, v, W, o, c, rfl, hx, wok, hW, cg, hc, q⟩ := h
  have nS := wok.nSats
  refine ⟨_, pss_cons (ps_expr (pe_f D_check_case (hr.mono (by omega)) pass0 (pa_cons (pv 1) (pa_cons (pv 2) pa_nil))))
  (pss_cons (ps_set (i := 3) sc_Flight___init__.nd rfl (Or.inl rfl) (pe_callTy cr_range1 (by rfl) B.range (by decide +kernel) (pa_cons (pe_callB (call_len_seq) (by rfl) B.len (by decide +kernel) (pa_cons (pe_fld (pv 1) rfl) pa_nil)) pa_nil)))
  (pss_cons (ps_fld (pv 0) (pe_callTy (call_tuple_of) (by rfl) B.tuple (by decide +kernel) (pa_cons (pe_lc (own := [("number", 4)])  rfl sc_Flight___init__.nd (pi_rngV (pv 3)) (blkOk_by (own := [("number", 4)]) (N := ["self", "world", "case", "numbers", "number"]) (sc := defScope s_Flight___init__) (by decide +kernel)) (fun _ _ _ _ _ => pg_name (i := 4) sc_Flight___init__.nd rfl (Or.inl rfl)) (fun _ _ _ _ _ => pts_nil) (fun _ _ _ _ _ => (pe_f D_store_used (hr.mono (by omega)) pass0 (pa_cons (pv 1) (pa_cons (pv 2) (pa_cons (pv 4) pa_nil)))))) pa_nil)) rfl)
  (pss_cons (ps_fld (pv 0) (pe_callTy (call_tuple_of) (by rfl) B.tuple (by decide +kernel) (pa_cons (pe_lc (own := [("number", 4)])  rfl sc_Flight___init__.nd (pi_rngV (pv 3)) (blkOk_by (own := [("number", 4)]) (N := ["self", "world", "case", "numbers", "number"]) (sc := defScope s_Flight___init__) (by decide +kernel)) (fun _ _ _ _ _ => pg_name (i := 4) sc_Flight___init__.nd rfl (Or.inl rfl)) (fun _ _ _ _ _ => pts_nil) (fun _ _ _ _ _ => (pe_f D_battery_levels (hr.mono (by omega)) pass0 (pa_cons (pv 1) (pa_cons (pv 2) (pa_cons (pv 4) pa_nil)))))) pa_nil)) rfl)
  (pss_one (ps_fld (pv 0) (pe_f D_events_of (hr.mono (by omega)) pass0 (pa_cons (pv 1) (pa_cons (pv 2) pa_nil))) rfl)))))
    , ?_⟩
  refine ⟨_, rfl, _, rfl, ac, W, v, o, c, rfl, wok, hW, cg, hc, fun H1 s1 => ?_⟩
  have nc := noL_case c
  have X1 : SameX x H H1 := SameX.of s1
  obtain ⟨dx, t0, t1, t2, t3, x0, x1, x2, x3, gw, p0, q0, _⟩ := (hW.bare hx X1).ex
  have l0 := paired_len q0
  refine ⟨_, rfl, ac, CW, dx, _, _, rfl, gw, T.c_World.cl, T.n_World_satellites, lk_World_satellites, t0, x0, rfl, .inr p0, _, rfl, fun r hr1 => ?_⟩
  have X2 : SameX x H (upd H1 r (.rng 0 (x0.length : Int))) := X1.trans (SameX.of (same_new hr1 _))
  have hx2 : (upd H1 r (.rng 0 (x0.length : Int))) x = some (.ins CF dx0 []) := same_new hr1 _ _ _ (s1 _ _ hx)
  have hr2 : (upd H1 r (.rng 0 (x0.length : Int))) r = some (.rng 0 (x0.length : Int)) := upd_same
  generalize upd H1 r (.rng 0 (x0.length : Int)) = H2 at X2 hx2 hr2
  refine ⟨_, rfl, r, 0, (x0.length : Int), rfl, hr2, ⟨by omega, by omega, by omega, by omega⟩, fun D hD => lc_range (lo := 0) (n := ((x0.length : Int) - 0).toNat) (fun i H' => Same H2 H' ∧ DL K (usedPy W c) H' D (List.range i)) ⟨same_new hD _, DL.nil⟩ (fun i H3 hi hI => ?_) (fun H3 hI => ?_)⟩
  · obtain ⟨hs, hd⟩ := hI
    have X3 := X2.trans (SameX.of hs)
    refine ⟨rfl, _, rfl, _, rfl, _, rfl, ac, v, W, o, c, i, by rw [Int.zero_add]; rfl, wok, hW.bare hx X3, cg, dp_bare nc hc hx X3, fun t H4 s4 ht => ?_⟩
    obtain ⟨xs, g1, g2, g3⟩ := (hd.same s4).push (a := i) (noL_used W c) (.tup ht (dp_intsT _)) (by rw [List.length_range]; omega)
    refine ⟨xs, g1, g2, same_at hD (hs.trans s4) _, ?_⟩
    rw [List.range_succ]
    exact g3
  obtain ⟨s3, hd⟩ := hI
  rw [show ((x0.length : Int) - 0).toNat = W.sats.length by omega] at hd
  obtain ⟨xu, hu1, hu2⟩ := hd
  refine ⟨D, xu, rfl, .inl ⟨SqL.of hu1, fun tu htu => ?_⟩⟩
  have s4 := s3.trans (same_new htu (.tup xu))
  have du : Dp K (upd H3 tu (.tup xu)) (.ref tu) (.tuple ((List.range W.sats.length).map (usedPy W c))) := .tup (SqT.of upd_same) (dpAll_same (same_new htu _) hu2)
  have hxu := s4 _ _ hx2
  refine ⟨_, rfl, x, CF, dx0, _, rfl, hxu, TF.c.cl, TF.n_used, (by show 0 < 1000; decide), ?_⟩
  rw [put_nil]
  have nuse : noL (.tuple ((List.range W.sats.length).map (usedPy W c))) := by
    unfold noL
    exact noLs_map (noL_used W c) _
  have nlev : noL (.tuple ((List.range W.sats.length).map (levPy W c))) := by
    unfold noL
    exact noLs_map (noL_lev W c) _
  have X5 : SameX x H (upd (upd H3 tu (.tup xu)) x (.ins CF dx0 [("used", .ref tu)])) := (X2.trans (SameX.of s4)).at_
  have du5 := dp_bare nuse du hxu (SameX.upd (o := .ins CF dx0 [("used", .ref tu)]))
  have hx5 : (upd (upd H3 tu (.tup xu)) x (.ins CF dx0 [("used", .ref tu)])) x = some (.ins CF dx0 [("used", .ref tu)]) := upd_same
  have hr5 : (upd (upd H3 tu (.tup xu)) x (.ins CF dx0 [("used", .ref tu)])) r = some (.rng 0 (x0.length : Int)) := SameX.upd _ _ (ne_of hr2 hx2 (fun z => nomatch z)) (s4 _ _ hr2)
  generalize upd (upd H3 tu (.tup xu)) x (.ins CF dx0 [("used", .ref tu)]) = H5 at X5 du5 hx5 hr5
  refine ⟨_, rfl, r, 0, (x0.length : Int), rfl, hr5, ⟨by omega, by omega, by omega, by omega⟩, fun F hF => lc_range (lo := 0) (n := ((x0.length : Int) - 0).toNat) (fun i H' => Same H5 H' ∧ DL K (levPy W c) H' F (List.range i)) ⟨same_new hF _, DL.nil⟩ (fun i H6 hi hI => ?_) (fun H6 hI => ?_)⟩
  · obtain ⟨hs, hd⟩ := hI
    have X6 := X5.trans (SameX.of hs)
    obtain ⟨z, hz⟩ : ∃ z, W.sats[i]? = some z := ⟨_, List.getElem?_eq_getElem (by omega)⟩
    refine ⟨rfl, _, rfl, _, rfl, _, rfl, ac, v, W, o, c, i, z, by rw [Int.zero_add]; rfl, wok, hW.bare hx X6, cg, dp_bare nc hc hx X6, hz, fun t H7 s7 ht => ?_⟩
    have el : levPy W c i = .tuple ((levelsW W c i z W.horizon.toNat).map PyData.int) := by
      unfold levPy
      rw [hz]
    obtain ⟨xs, g1, g2, g3⟩ := (hd.same s7).push (a := i) (noL_lev W c) (by rw [el]; exact .tup ht (dp_intsT _)) (by rw [List.length_range]; omega)
    refine ⟨xs, g1, g2, same_at hF (hs.trans s7) _, ?_⟩
    rw [List.range_succ]
    exact g3
  obtain ⟨s6, hd⟩ := hI
  rw [show ((x0.length : Int) - 0).toNat = W.sats.length by omega] at hd
  obtain ⟨xl, hl1, hl2⟩ := hd
  refine ⟨F, xl, rfl, .inl ⟨SqL.of hl1, fun tl htl => ?_⟩⟩
  have s7 := s6.trans (same_new htl (.tup xl))
  have dl : Dp K (upd H6 tl (.tup xl)) (.ref tl) (.tuple ((List.range W.sats.length).map (levPy W c))) := .tup (SqT.of upd_same) (dpAll_same (same_new htl _) hl2)
  have hxl := s7 _ _ hx5
  refine ⟨_, rfl, x, CF, dx0, _, rfl, hxl, TF.c.cl, TF.n_levels, (by show 1 < 1000; decide), ?_⟩
  rw [put_miss (by decide +kernel), put_nil]
  have X8 : SameX x H (upd (upd H6 tl (.tup xl)) x (.ins CF dx0 [("used", .ref tu), ("levels", .ref tl)])) := (X5.trans (SameX.of s7)).at_
  have sqx : ∀ {b : Addr} {ys : List V}, SqT K (upd H6 tl (.tup xl)) b ys → SqT K (upd (upd H6 tl (.tup xl)) x (.ins CF dx0 [("used", .ref tu), ("levels", .ref tl)])) b ys := fun h => by
    rcases h with (h | ⟨o, h⟩) | h
    · exact .inl (.inl (SameX.upd _ _ (fun z => by rw [z, hxl] at h; cases h) h))
    · exact .inl (.inr ⟨o, SameX.upd _ _ (fun z => by rw [z, hxl] at h; cases h) h⟩)
    · exact .inr h
  have du8 := dpT_map (fun _ _ h => sqx h) nuse (dp_same s7 du5)
  have dl8 := dpT_map (fun _ _ h => sqx h) nlev dl
  have hx8 : (upd (upd H6 tl (.tup xl)) x (.ins CF dx0 [("used", .ref tu), ("levels", .ref tl)])) x = some (.ins CF dx0 [("used", .ref tu), ("levels", .ref tl)]) := upd_same
  generalize upd (upd H6 tl (.tup xl)) x (.ins CF dx0 [("used", .ref tu), ("levels", .ref tl)]) = H8 at X8 du8 dl8 hx8
  refine ⟨_, rfl, _, rfl, ac, v, W, o, c, rfl, wok, hW.bare hx X8, cg, dp_bare nc hc hx X8, fun te xe H9 evs s9 hte dte pe srt => ?_⟩
  have hx9 := s9 _ _ hx8
  refine ⟨_, rfl, x, CF, dx0, _, rfl, hx9, TF.c.cl, TF.n_events, (by show 2 < 1000; decide), ?_⟩
  rw [put_miss (by decide +kernel), put_miss (by decide +kernel), put_nil]
  have sqy : ∀ {b : Addr} {ys : List V}, SqT K H9 b ys → SqT K (upd H9 x (.ins CF dx0 [("used", .ref tu), ("levels", .ref tl), ("events", .ref te)])) b ys := fun h => by
    rcases h with (h | ⟨o, h⟩) | h
    · exact .inl (.inl (SameX.upd _ _ (fun z => by rw [z, hx9] at h; cases h) h))
    · exact .inl (.inr ⟨o, SameX.upd _ _ (fun z => by rw [z, hx9] at h; cases h) h⟩)
    · exact .inr h
  exact q tu tl te xe evs _ (X8.trans (SameX.of s9)).at_ upd_same (dpT_map (fun _ _ h => sqy h) nuse (dp_same s9 du8)) (dpT_map (fun _ _ h => sqy h) nlev (dp_same s9 dl8)) (sqy hte) (dpTs_map (fun _ _ h => sqy h) (noLs_map noL_ev evs) dte) pe srt
end
end DP
namespace DP
open PySem PySem.Spec PyProof.Rows L2
abbrev SpS := Shared → Sp
/-- a promise that may speak of the state at the call -/
structure FnS (P : Program) (w : World) (K : PySem.W.Frag) (mg : Str → Option Value) (base : Heap) (k : Nat) (f : Addr) (fd : FuncData) (ps : List Str) (sp : SpS) : Prop where
  len : ∀ s vs H Q E, sp s vs H Q E → vs.length = ps.length
  run : ∀ (A : Around) (outer : List Env) (s : Shared) (H : Hp) (gs : Args) (us : List Value) (vs : List V) (Q : VK) (E : XK), Room k A → Env0 P w K mg base A outer s H → BindsTo s fd gs (ps.zip us) → Vals vs us → sp s vs H Q E →
    codeAny (model P w) A (.call (.ref f) gs) (CR CX0 outer P w H s Q E) s
structure MDefS (P : Program) (w : World) (K : PySem.W.Frag) (mg : Str → Option Value) (base : Heap) (k : Nat) (C : Addr) (m : Str) (ps : List Str) (sp : SpS) : Prop where
  ex : ∃ f fd, FnS P w K mg base k f fd ps sp ∧ PySem.W.findIn K (.ref C) m = some (some (.ref f)) ∧ PySem.W.isFn K (.ref f) = true ∧ Binds K fd ps []
section
variable {P : Program} {w : World} {K : PySem.W.Frag} {mg : Str → Option Value} {base : Heap} {k : Nat} {ps : List Str} {sp : SpS}
theorem fnS_of {f : Addr} {name qual : Str} {params : Arguments} {body : List Stmt} {scope : Scope} {dV kV doc pm cdv ct oc : Value} {an od : Option Addr} {osl : Array (Option Value)} {N : List Str}
    (lk : K.lookup f = some ⟨oc, od, .func (PySem.W.fnOf name qual params body scope dV kV doc pm an cdv ct), osl⟩) (hcd : PySem.W.codeIn K cdv qual = true) (S : FnScope N ps scope) (len : ∀ s vs H Q E, sp s vs H Q E → vs.length = ps.length)
    (hbody : ∀ (A : Around) (outer : List Env) (s : Shared) (H : Hp) (vs : List V) (Q : VK) (E : XK), Room k (A.deeper (envOfC qual scope s.heap.objs.size f cdv)) → sp s vs H Q E →
      ∃ t, PSs (cxOf CX0 P w K mg base N qual scope f cdv A outer s H E).nox body t ∧ t { nx := fun _ H' => Q .non H', rt := Q } (start N vs) H) :
    FnS P w K mg base (k + 1) f (PySem.W.fnOf name qual params body scope dV kV doc pm an cdv ct) ps sp := by
  refine ⟨len, fun A outer s H gs us vs Q E hr0 e1 hbn rv hq => ?_⟩
  have nn := len s vs H Q E hq
  have kIn : K.In s.heap := e1.mod.kin.keeps fun b o z => (e1.bs b o z).1
  have noLim : s.heap.NoLimit := e1.mod.nolimit.keeps fun b o z => (e1.bs b o z).1
  have kinds : ∀ y ∈ ps.zip us, scope.names.lookup y.1 = some .local ∨ (scope.names.lookup y.1 = some .cell ∧ ((cellsFrom (s.heap.objs.size + 1) scope.names []).lookup y.1).isSome = true) := fun y hy => by
    obtain ⟨n, v⟩ := y
    exact (S.par n (List.of_mem_zip hy).1).elim Or.inl fun z => .inr ⟨z, PySem.W.cellsFrom_some _ _ _ (.inl z)⟩
  refine codeAny_call_function hr0.depth (kIn _ _ lk) rfl S.co S.gen rfl (PySem.W.codeRec_of kIn hcd) (hbn _ _ _ _ (wpAny_newFunctionEnv_cells S.kind kinds fun env he s1 z => ?_))
  cases he
  refine ⟨noLim.keeps z.toInCall.keep, codeAny_func ?_⟩
  obtain ⟨t, ht, qt⟩ := hbody A outer s H vs Q E (hr0.deeper _) hq
  have J := inv_start (CX := CX0) (E := E) S hr0.hd e1 nn rv z
  refine wpAny_mono (ht.nox.run [] s1 (start N vs) H _ J qt) (fun fl s' hs => ?_) fun _ _ z => z
  have out : ∀ {σ' : L2.St} {H' : Hp} {v : V} {u : Value}, Inv (cxOf CX0 P w K mg base N qual scope f cdv A outer s H E) [] σ' H' s' → RelV v u → Q v H' → CE outer P w H s Q u s' :=
    fun {_ H' v _} M r q => ⟨v, H', M.os, M.bare, M.base, M.hok, r, q⟩
  cases fl with
  | ret u => exact let ⟨_, _, _, M, r, q⟩ := hs; out M r q
  | next => exact let ⟨_, _, M, q⟩ := hs; out (v := V.non) (u := Value.none) M rfl q
  | brk => exact let ⟨_, _, _, q⟩ := hs; q.elim
  | cont => exact let ⟨_, _, _, q⟩ := hs; q.elim
theorem MAt.okS {C : Addr} {m qual : Str} {st : Stmt} {N : List Str} (F : MAt K C m qual st ps) (S : FnScope N ps (defScope st)) (len : ∀ s vs H Q E, sp s vs H Q E → vs.length = ps.length)
    (hbody : ∀ (f : Addr) (cdv : Value) (A : Around) (outer : List Env) (s : Shared) (H : Hp) (vs : List V) (Q : VK) (E : XK), Room k (A.deeper (envOfC qual (defScope st) s.heap.objs.size f cdv)) → sp s vs H Q E →
      ∃ t, PSs (cxOf CX0 P w K mg base N qual (defScope st) f cdv A outer s H E).nox (defBody st) t ∧ t { nx := fun _ H' => Q .non H', rt := Q } (start N vs) H) : MDefS P w K mg base (k + 1) C m ps sp := by
  obtain ⟨f, fd, G, M, b⟩ := F.ex
  obtain ⟨oc, od, kV, doc, pm, an, cdv, ct, osl, rfl, lk, hcd⟩ := G.ex
  exact ⟨f, _, fnS_of lk hcd S len (fun A outer s H vs Q E hr h => hbody f cdv A outer s H vs Q E hr h), M.at_, M.fn, b⟩
end
/-- at it the iterator of the tuple at t, not yet asked -/
def TiO (t it : Addr) : HO := .ext fun h => h.IsTupleIter it t 0
theorem tiO_ok {P : Program} {w : World} {H : Hp} {h : Heap} {t it : Addr} (e : h.IsTupleIter it t 0) : ObjOk P w H h it (TiO t it) :=
  ⟨e, let ⟨o, ho, _⟩ := e; ⟨o, ho⟩, fun _ _ q kp => q.at fun o z => kp o z⟩
section
variable {X : Cx}
/-- iter(xs), xs a tuple -/
theorem call_iterT : CallR X (.builtin "iter") (fun xs H Q => ∃ (t : Addr) (ys : List V), xs = [.ref t] ∧ SqT X.K H t ys ∧ ∀ it, H it = none → X.s_0.heap.objs.size ≤ it → Q (.ref it) (upd H it (TiO t it))) := by
  intro pins s σ H xs us Q I r h
  obtain ⟨t, ys, rfl, hq, q⟩ := h
  obtain ⟨u, rfl, ru⟩ := vals1 r
  cases ru
  obtain ⟨its, rv, p, hz⟩ := I.tuple hq
  refine Calls.call_function_entry (by decide +kernel) (by decide +kernel) PySem.W.kdk_entry_iter (PySem.W.kdk_args_iter _) ?_
  unfold Builtin.«iter»
  refine wpAny_bind (m := someArgs "iter" 1 2 _) (wpAny_of_eq (a := [Value.ref t]) (by first | rfl | kernel_rfl!) ?_)
  show wpAny _ _ (pyIter (.ref t) >>= _) _ _ _
  refine wpAny_bind (wpAny_pyIter_tuple (show s.heap.IsTuple t its.toArray from p) (wpAny_pure ⟨_, rfl, ?_⟩))
  exact ⟨.ref s.heap.objs.size, _, I.laid (t' := s.toks) (fun b u e => Heap.get?_push_of_some _ e) (Nat.le_refl _) (tiO_ok ⟨_, Heap.get?_push_size _ rfl, rfl, rfl⟩), rfl, q _ (I.hok.fresh (Nat.le_refl _)) I.sz⟩
/-- what __iter__ promises -/
def spIterT (K : PySem.W.Frag) (C : Addr) (fld : Str) : SpS := fun s vs H Q _ => ∃ (x dx te : Addr) (fs : List (Str × V)) (ys : List V), vs = [.ref x] ∧ H x = some (.ins C dx fs) ∧ fs.lookup fld = some (.ref te) ∧ SqT K H te ys ∧
  ∀ it, H it = none → s.heap.objs.size ≤ it → Q (.ref it) (upd H it (TiO te it))
variable {k : Nat} {C : Addr} {fld : Str} {tg : Expr}
/-- the object's __iter__ runs -/
theorem own_iter0 {A1 : Around} {pins : List (Addr × Obj)} {σ : L2.St} {H : Hp} {s : Shared} {x dx te : Addr} {fs : List (Str × V)} {ys : List V} {Q : Value → Shared → Prop} (D : MDefS X.prog X.w X.K X.mg X.base k C "__iter__" ["self"] (spIterT X.K C fld)) (sb : Sub X k A1)
    (I : Inv X pins σ H s) (hx : H x = some (.ins C dx fs)) (hl : fs.lookup fld = some (.ref te)) (ht : SqT X.K H te ys)
    (q : ∀ it s', H it = none → X.s_0.heap.objs.size ≤ it → Inv X pins σ (upd H it (TiO te it)) s' → Q (.ref it) s') : wpAny (model X.prog X.w) A1 (pyIter (.ref x)) Q X.xe s := by
  obtain ⟨f, fd, F, hf, hfn, b⟩ := D.ex
  obtain ⟨mA, J, _⟩ := ins_get I.hok hx
  obtain ⟨od, J, _⟩ := J.look
  obtain ⟨m, hF⟩ := I.fr
  refine PySem.W.owit_iter hF I.ok.mod.kin J hf hfn ?_
  have e0 : Env0 X.prog X.w X.K X.mg X.base A1 X.stack s H := by
    have e := I.env0
    exact ⟨by rw [sb.fr]; exact e.frames, e.mod, e.bs, e.bsz, e.funs, e.frf, e.hok, e.bare⟩
  have hsp : spIterT X.K C fld s [.ref x] H (fun v H' => ∃ it, v = .ref it ∧ H it = none ∧ s.heap.objs.size ≤ it ∧ H' = upd H it (TiO te it)) E0 := ⟨x, dx, te, fs, ys, rfl, hx, hl, ht, fun it h1 h2 => ⟨it, rfl, h1, h2, rfl⟩⟩
  refine wpAny_call (codeAny_mono (F.run A1 X.stack s H ⟨[.ref x], []⟩ [.ref x] [.ref x] _ E0 sb.room e0 (by
    have := b s [.ref x] I.kIn rfl
    simpa using this) (.cons rfl .nil) hsp) fun r s' hq => ?_)
  cases r with
  | error e => exact (pass0 pins σ H s e s' I hq)
  | ok fl =>
    cases fl with
    | next => exact False.elim hq
    | brk => exact False.elim hq
    | cont => exact False.elim hq
    | ret u =>
      obtain ⟨v, H', I', rv, it, rfl, hn, hs, rfl⟩ := I.after hq
      cases rv
      have st : s'.heap.IsTupleIter it te 0 := (I'.hok it _ upd_same).1
      unfold PySem.W.OwitIt
      refine wpAny_specialOf (name := Str.ofString "__next__") st.typeIs PySem.F.slot_tuple_iterator_next.lookup ?_
      exact q it s' hn (Nat.le_trans I.sz hs) I'
/-- the iterator is forgotten, to be turned -/
theorem tiO_drop {pins : List (Addr × Obj)} {σ : L2.St} {H : Hp} {s : Shared} {it te : Addr} (hn : H it = none) (ha : X.s_0.heap.objs.size ≤ it) (I : Inv X pins σ (upd H it (TiO te it)) s) : Inv X pins σ H s ∧ s.heap.IsTupleIter it te 0 ∧ FpOk X pins H it := by
  have hd := ItX.inv_drop I (h := (upd_same : upd H it (TiO te it) it = some (TiO te it)))
  have hp := ItX.inv_fp I (upd_same : upd H it (TiO te it) it = some (TiO te it)) ha
  rw [ItX.dropH_upd hn] at hd hp
  exact ⟨hd, (I.hok it _ upd_same).1, hp⟩
theorem own_iter {A1 : Around} {pins : List (Addr × Obj)} {σ : L2.St} {H : Hp} {s : Shared} {x dx te : Addr} {fs : List (Str × V)} {ys : List V} {Q : Value → Shared → Prop} (D : MDefS X.prog X.w X.K X.mg X.base k C "__iter__" ["self"] (spIterT X.K C fld)) (sb : Sub X k A1)
    (I : Inv X pins σ H s) (hx : H x = some (.ins C dx fs)) (hl : fs.lookup fld = some (.ref te)) (ht : SqT X.K H te ys)
    (q : ∀ it s', Inv X pins σ H s' → s'.heap.IsTupleIter it te 0 → FpOk X pins H it → Q (.ref it) s') : wpAny (model X.prog X.w) A1 (pyIter (.ref x)) Q X.xe s :=
  own_iter0 D sb I hx hl ht fun it s' hn ha I' => let ⟨h1, h2, h3⟩ := tiO_drop hn ha I'; q it s' h1 h2 h3
/-- a walk over such an object -/
def iOwnT (K : PySem.W.Frag) (C : Addr) (fld : Str) (tl : TE) : TI := fun σ H R => tl σ H fun x H1 => ∃ a dx te fs ys, x = .ref a ∧ H1 a = some (.ins C dx fs) ∧ fs.lookup fld = some (.ref te) ∧ SqT K H1 te ys ∧ R (Itt K te) H1
theorem pi_ownT {l : Expr} {tl : TE} (D : MDefS X.prog X.w X.K X.mg X.base k C "__iter__" ["self"] (spIterT X.K C fld)) (hr : Room k X.A) (hl : PE X l tl) : PI X tg l (iOwnT X.K C fld tl) := by
  refine ⟨fun pins s σ H R I h => ?_⟩
  refine thn (hl.run pins s σ H _ I h) fun v s1 ⟨x, H1, I1, r1, q1⟩ => ?_
  obtain ⟨a, dx, te, fs, ys, e, hx, hlk, ht, q⟩ := q1
  subst e
  cases r1
  refine own_iter D ⟨hr, rfl⟩ I1 hx hlk ht fun it s' I2 st fp => ?_
  refine ⟨it, [it], _, Itt X.K te, H1, rfl, I2, turn_tuple te it, st, fun b hb => ?_, q⟩
  have e : b = it := by simpa using hb
  rw [e]
  exact fp
/-- what __len__ promises -/
def spLenT (K : PySem.W.Frag) (C : Addr) (fld : Str) : Sp := fun vs H Q _ => ∃ (x dx te : Addr) (fs : List (Str × V)) (ys : List V), vs = [.ref x] ∧ H x = some (.ins C dx fs) ∧ fs.lookup fld = some (.ref te) ∧ SqT K H te ys ∧ Q (.int ys.length) H
/-- len of such an object -/
theorem own_len {A1 : Around} {pins : List (Addr × Obj)} {σ : L2.St} {H : Hp} {s : Shared} {x dx te : Addr} {fs : List (Str × V)} {ys : List V} {Q : Value → Shared → Prop} {E : Value → Shared → Prop} (D : MDef X.prog X.w X.K X.mg X.base CX0 k C "__len__" ["self"] [] (spLenT X.K C fld)) (sb : Sub X (k + 1) A1)
    (I : Inv X pins σ H s) (hx : H x = some (.ins C dx fs)) (hl : fs.lookup fld = some (.ref te)) (ht : SqT X.K H te ys) (hz : ys.length ≤ 1000)
    (q : ∀ t s', Inv X pins σ H s' → Q (.int ys.length t) s') : wpAny (model X.prog X.w) A1 (call (.builtin "len") [.ref x]) Q E s := by
  obtain ⟨f, fd, ds, F, M, b, vd⟩ := D.ex
  cases vd
  obtain ⟨mA, J, _⟩ := ins_get I.hok hx
  obtain ⟨od, J, _⟩ := J.look
  refine Calls.call_function_entry kind_len plain_len entry_len (args_len1 _) ?_
  unfold Builtin.«len»
  refine wpAny_bind (m := oneArg "len" _) (wpAny_pure ?_)
  have e0 : Env0 X.prog X.w X.K X.mg X.base A1.in1 X.stack s H := by
    have e := I.env0
    exact ⟨by rw [show A1.in1.frames = A1.frames from rfl, sb.fr]; exact e.frames, e.mod, e.bs, e.bsz, e.funs, e.frf, e.hok, e.bare⟩
  have hsp : spLenT X.K C fld [.ref x] H (fun v H' => v = .int ys.length ∧ H' = H) E0 := ⟨x, dx, te, fs, ys, rfl, hx, hl, ht, rfl, rfl⟩
  refine wpAny_bind (m := callSpecial? (.ref x) (PySem.Str.ofString "__len__")) (PySem.W.special_fn (name := "__len__") (args := []) I.kIn J M.at_ (beq_iff_eq.mp M.fn) ?_)
  refine wpAny_call (codeAny_mono (F.run A1.in1 X.stack s H ⟨[.ref x], []⟩ [.ref x] [.ref x] _ E0 sb.room.in1 e0 (by
    have := b s [.ref x] I.kIn rfl
    simpa using this) (.cons rfl .nil) hsp) fun r s' hq => ?_)
  cases r with
  | error e => exact False.elim hq
  | ok fl =>
    cases fl with
    | next => exact False.elim hq
    | brk => exact False.elim hq
    | cont => exact False.elim hq
    | ret u =>
      obtain ⟨v, H', I', rv, rfl, rfl⟩ := I.after hq
      obtain ⟨t, rfl⟩ := rv
      refine wpAny_bind (wpAny_holding (wpAny_pure ?_))
      refine wpAny_bind (wpAny_letGo ?_)
      show wpAny _ _ (if ((ys.length : Nat) : Int) < 0 then _ else _) _ _ _
      rw [if_neg (by omega)]
      show wpAny _ _ (if ((ys.length : Nat) : Int) ≥ 2 ^ 63 then _ else _) _ _ _
      rw [if_neg (by omega)]
      exact wpAny_bind (wpAny_mkInt (wpAny_pure ⟨_, rfl, q _ _ (I'.tok _)⟩))
theorem call_lenOwnT (D : MDef X.prog X.w X.K X.mg X.base CX0 k C "__len__" ["self"] [] (spLenT X.K C fld)) (hr : Room (k + 1) X.A) : CallR X (.builtin "len") (fun xs H Q => ∃ (x dx te : Addr) (fs : List (Str × V)) (ys : List V), xs = [.ref x] ∧ H x = some (.ins C dx fs) ∧ fs.lookup fld = some (.ref te) ∧ SqT X.K H te ys ∧ ys.length ≤ 1000 ∧ Q (.int ys.length) H) := by
  intro pins s σ H xs us Q I r h
  obtain ⟨x, dx, te, fs, ys, rfl, hx, hl, ht, hz, q⟩ := h
  obtain ⟨u, rfl, ru⟩ := vals1 r
  cases ru
  exact own_len D ⟨hr, rfl⟩ I hx hl ht hz fun t s' I' => ⟨.int ys.length, H, I', ⟨t, rfl⟩, q⟩
/-- the rest of a tuple, pushed to the list at q -/
theorem ext_loop {A1 : Around} {pins : List (Addr × Obj)} {σ : L2.St} {te q it : Addr} {ys : List V} {Rs : Result → Shared → Prop} (hh : A1.handled = none) (hz : ys.length ≤ 1000) :
    ∀ (n i : Nat) (H : Hp) (s : Shared), n = ys.length - i → i ≤ ys.length → Inv X pins σ H s → SqT X.K H te ys → H q = some (.lst (ys.take i)) → s.heap.IsTupleIter it te i → FpOk X pins H it →
      (∀ H' s', Inv X pins σ H' s' → H' = upd H q (.lst ys) → Rs (.ok (.ret .none)) s') → codeAny (model X.prog X.w) A1 (.builtin "list.extend.loop" ⟨[.ref q, .ref it, .none], []⟩) Rs s := by
  intro n
  induction n with
  | zero =>
    intro i H s hn hi I ht hq st fp hdone
    have e : i = ys.length := by omega
    subst e
    rw [List.take_length] at hq
    refine codeAny_builtin PySem.F.entry_extend_loop ?_
    rw [Around.under_plainId PySem.F.plain_extend_loop _]
    show wpAny _ A1.in1 (pyNext (.ref it) >>= _) _ _ s
    obtain ⟨its, rv, p, _⟩ := I.tuple ht
    have hl := rv.length
    obtain ⟨f0, f1, f2, f3, f4, f5⟩ := fp
    refine wpAny_bind (wpAny_pyNext_tuple_end (A := A1.in1) hh st (show s.heap.IsTuple te its.toArray from p) (by simp; omega) fun h' eb => ?_)
    refine wpAny_pure (hdone H _ (I.turned (t' := s.toks) (fun b o hb e => eb b o hb e) f0 f1 f3 f4 f5) ?_)
    funext b
    by_cases hb : b = q
    · rw [hb, upd_same, hq]
    · rw [upd_ne hb]
  | succ n ih =>
    intro i H s hn hi I ht hq st fp hdone
    have hi2 : i < ys.length := by omega
    refine codeAny_builtin PySem.F.entry_extend_loop ?_
    rw [Around.under_plainId PySem.F.plain_extend_loop _]
    show wpAny _ A1.in1 (pyNext (.ref it) >>= _) _ _ s
    obtain ⟨its, rv, p, _⟩ := I.tuple ht
    obtain ⟨u, hu, ru⟩ := rv.get (List.getElem?_eq_getElem hi2)
    obtain ⟨f0, f1, f2, f3, f4, f5⟩ := id fp
    refine wpAny_bind (wpAny_pyNext_tuple_item st (show s.heap.IsTuple te its.toArray from p) (x := u) (by simpa using hu) fun h' st' sb => ?_)
    have I1 : Inv X pins σ H { s with heap := h' } := I.turned (t' := s.toks) (fun b o hb e => (sb.2 b hb).trans e) f0 f1 f3 f4 f5
    show wpAny _ A1.in1 (updateSeq q (·.push u) >>= _) _ _ _
    obtain ⟨z, jts, k2, r2, hl, e⟩ := I1.lstM hq
    have nq : it ≠ q := fun z => by rw [z, hq] at f0; cases f0
    have lt : (ys.take i).length = i := by rw [List.length_take]; omega
    have sz : sizeLine = 16777216 := sizeLine_eq
    refine wpAny_bind (wpAny_updateSeq e rfl (wpAny_pure ⟨plainId_quiet PySem.F.plain_extend_loop _, ?_⟩) (by rw [List.size_toArray]; omega) (by show (jts.toArray.push u).size ≤ sizeLine + 1; rw [Array.size_push, List.size_toArray]; omega))
    have tk : ys.take (i + 1) = ys.take i ++ [ys[i]] := by rw [List.take_add_one, List.getElem?_eq_getElem hi2]; rfl
    have I2 := I1.lset (f := (·.push u)) (its' := jts ++ [u]) (ys := ys.take (i + 1)) (t' := s.toks) hq e (by simp) (by rw [tk]; exact r2.append (.cons ru .nil)) (by rw [List.length_take]; omega)
    refine ih (i + 1) _ _ (by omega) hi2 I2 (sqT_upd ht hq) upd_same (st'.at fun o ho => (Heap.get?_update_other _ _ nq.symm).trans ho) ⟨by rw [upd_ne nq]; exact f0, f1, f2, f3, f4, f5⟩ (fun H' s' I' eH => hdone H' s' I' (by rw [eH, upd_upd]))
/-- list(o) -/
theorem call_listOwnT (D : MDefS X.prog X.w X.K X.mg X.base k C "__iter__" ["self"] (spIterT X.K C fld)) (DL : MDef X.prog X.w X.K X.mg X.base CX0 k C "__len__" ["self"] [] (spLenT X.K C fld)) (hr : Room (k + 4) X.A) :
    CallR X (.type "list") (fun xs H Q => ∃ (x dx te : Addr) (fs : List (Str × V)) (ys : List V), xs = [.ref x] ∧ H x = some (.ins C dx fs) ∧ fs.lookup fld = some (.ref te) ∧ SqT X.K H te ys ∧ ys.length ≤ 1000 ∧ ∀ q, H q = none → Q (.ref q) (upd H q (.lst ys))) := by
  intro pins s σ H xs us Q I r h
  obtain ⟨x, dx, te, fs, ys, rfl, hx, hlk, ht, hz, hQ⟩ := h
  obtain ⟨u, rfl, ru⟩ := vals1 r
  cases ru
  have sb : Sub X (k + 2) X.A.in1.in1 := (Sub.in1 (Sub.in1 (⟨hr, rfl⟩ : Sub X (k + 4) X.A)))
  refine callType_codes (Q₁ := fun obj s₁ => obj = .ref s.heap.objs.size ∧ s₁ = { s with heap := s.heap.push { cls := .type "list", data := .seq #[] } }) PySem.F.called_list (PySem.F.typeCall_list_1 _) PySem.F.entry_list_init
    (code_list_new _ ⟨rfl, rfl⟩) fun obj s₁ h₁ => ?_
  obtain ⟨rfl, rfl⟩ := h₁
  have hS : (s.heap.push { cls := .type "list", data := .seq #[] }).get? s.heap.objs.size = some { cls := .type "list", data := .seq #[] } := Heap.get?_push_size _ rfl
  refine ⟨⟨_, hS, rfl⟩, PySem.F.args_list_init_2 _ _, ?_⟩
  have fr : H s.heap.objs.size = none := I.hok.fresh (Nat.le_refl _)
  generalize hq0 : s.heap.objs.size = q0 at fr hS ⊢
  have I1 : Inv X pins σ (upd H q0 (.lst [])) { s with heap := s.heap.push { cls := .type "list", data := .seq #[] } } := by
    have := I.lnew (its := []) (t' := s.toks) .nil (Nat.zero_le _)
    rw [hq0] at this
    exact this
  show wpAny _ _ (do let old ← Builtin.List.listItems (.ref q0); Builtin.List.listUpdate (.ref q0) (fun _ => #[]); letGo old.toList.reverse; Builtin.List.listExtendWith (.ref q0) (.ref x) .none) _ _ _
  refine wpAny_bind ?_
  unfold Builtin.List.listItems
  refine wpAny_bind (wpAny_seqItems hS rfl (wpAny_pure ?_))
  show wpAny _ _ (updateSeq q0 (fun _ => #[]) >>= fun _ => letGo (#[] : Array Value).toList.reverse >>= fun _ => Builtin.List.listExtendWith (.ref q0) (.ref x) .none) _ _ _
  refine wpAny_bind (wpAny_updateSeq hS rfl ?_)
  have I2 := I1.lset (f := fun _ => #[]) (its := []) (its' := []) (ys := []) (t' := s.toks) upd_same hS rfl .nil (Nat.zero_le _)
  rw [upd_upd] at I2
  refine wpAny_bind (wpAny_letGo ?_)
  have hx2 : upd H q0 (.lst []) x = some (.ins C dx fs) := by rw [upd_ne (ne_of_none hx fr)]; exact hx
  have ht2 : SqT X.K (upd H q0 (.lst [])) te ys := Same.tup (same_new fr _) ht
  have hq2 : upd H q0 (.lst []) q0 = some (.lst []) := upd_same
  have hne : q0 ≠ x := ne_of hq2 hx2 (fun z => nomatch z)
  have hQ2 := hQ q0 fr
  generalize { s with heap := (s.heap.push { cls := .type "list", data := .seq #[] }).update q0 (Obj.mapSeq fun _ => #[]), toks := s.toks } = s2 at I2 ⊢
  have eQ : upd (upd H q0 (.lst [])) q0 (.lst ys) = upd H q0 (.lst ys) := upd_upd
  generalize upd H q0 (.lst []) = H2 at I2 hx2 ht2 hq2 eQ
  obtain ⟨mA, J, _⟩ := ins_get I2.hok hx2
  obtain ⟨od, J, _⟩ := J.look
  unfold Builtin.List.listExtendWith
  refine wpAny_bind (J.type.here ?_)
  have h1 : Builtin.List.listSameRef (.ref q0) (.ref x) = false := by simp [Builtin.List.listSameRef, hne]
  have h2 : (Value.ref C == Value.type "list") = false := rfl
  have h3 : (Value.ref C == Value.type "tuple") = false := rfl
  simp only [h1, h2, h3, Bool.or_false, Bool.false_eq_true, if_false]
  refine wpAny_bind (own_iter0 D (sb.mono (by omega)) I2 hx2 hlk ht2 fun it s3 hn ha I3 => ?_)
  have hx3 : upd H2 it (TiO te it) x = some (.ins C dx fs) := same_new hn _ _ _ hx2
  have ht3 : SqT X.K (upd H2 it (TiO te it)) te ys := Same.tup (same_new hn _) ht2
  obtain ⟨mA', J', _⟩ := ins_get I3.hok hx3
  obtain ⟨od', J', _⟩ := J'.look
  obtain ⟨f, fd, ds, F, M, b, vd⟩ := id DL.ex
  have fin : ∀ s4 : Shared, Inv X pins σ H2 s4 → s4.heap.IsTupleIter it te 0 → FpOk X pins H2 it → codeAny (model X.prog X.w) X.A.in1 (.builtin "list.extend.loop" ⟨[.ref q0, .ref it, .none], []⟩) (wants (fun r s₂ => r = .none ∧ EP X pins σ Q (.ref q0) s₂) X.xe) s4 := fun s4 I4 st4 fp4 =>
    ext_loop (A1 := X.A.in1) hr.hd hz ys.length 0 H2 s4 (by omega) (Nat.zero_le _) I4 ht2 (by rw [List.take_zero]; exact hq2) st4 fp4 (fun H' s' I' e => ⟨rfl, .ref q0, H', I', rfl, by rw [e, eQ]; exact hQ2⟩)
  refine wpAny_bind (wpAny_holding ?_)
  unfold Builtin.List.listLengthHint
  refine wpAny_bind (wpAny_bind (J'.type.here ((PySem.W.looks_findIn I3.kIn M.at_).here ?_)))
  refine PySem.W.KFB.if_not rfl ?_
  show wpAny _ _ (rule "list.length-hint.len" >>= _) _ _ _
  refine wpAny_bind (wpAny_rule ?_)
  refine wpAny_bind (wpAny_attempt (own_len DL (sb.mono (by omega)) I3 hx3 hlk ht3 hz fun t s4 I4 => ?_))
  obtain ⟨I5, st5, fp5⟩ := tiO_drop hn ha I4
  refine wpAny_bind (m := asInt? _) (wpAny_pure ?_)
  show wpAny _ _ (if Builtin.List.listTooLong ((ys.length : Int)).toNat = true then _ else pure _) _ _ _
  rw [if_neg (by rw [notLongL (by have := sizeLine_eq; omega)]; exact Bool.false_ne_true)]
  refine wpAny_pure ?_
  refine wpAny_ite_split (fun _ => ?_) (fun _ => wpAny_pure ⟨plainId_quiet PySem.F.plain_extend_loop _, fin s4 I5 st5 fp5⟩)
  refine wpAny_bind (wpAny_rule ?_)
  refine wpAny_bind ?_
  show wpAny _ _ (updateSeq q0 (·.push .none) >>= fun _ => updateSeq q0 (·.pop)) _ _ _
  obtain ⟨z, its, k3, r3, hl3, e3⟩ := I5.lstM hq2
  cases r3
  refine wpAny_bind (wpAny_updateSeq e3 rfl ?_)
  have I6 := I5.lset (f := (·.push Value.none)) (its' := [Value.none]) (ys := [.non]) (t' := s4.toks) hq2 e3 (by simp) (.cons rfl .nil) (by rw [List.length_singleton, sizeLine_eq]; decide)
  obtain ⟨z4, its4, k4, r4, hl4, e4⟩ := I6.lstM upd_same
  obtain ⟨u4, rfl, ru4⟩ := r4.one
  refine wpAny_updateSeq e4 rfl ?_ (by show 1 ≤ sizeLine; rw [sizeLine_eq]; decide) (by show 0 ≤ sizeLine + 1; exact Nat.zero_le _)
  have I7 := I6.lset (f := (·.pop)) (its := [u4]) (its' := []) (ys := []) (t' := s4.toks) upd_same e4 (by rfl) .nil (Nat.zero_le _)
  rw [upd_upd] at I7
  have hH : upd H2 q0 (.lst []) = H2 := by
    funext b
    by_cases hb : b = q0
    · rw [hb, upd_same, hq2]
    · rw [upd_ne hb]
  rw [hH] at I7
  have nq : q0 ≠ it := ne_of_none hq2 hn
  exact wpAny_pure ⟨plainId_quiet PySem.F.plain_extend_loop _, fin _ I7 (st5.at fun o ho => (Heap.get?_update_other _ _ nq).trans ((Heap.get?_update_other _ _ nq).trans ho)) fp5⟩
end
end DP
namespace DP
open PySem PySem.Spec PyProof.Rows L2
abbrev s_Flight___iter__ : Stmt := inClass (topS 66) 1
theorem sc_Flight___iter__ : FnScope ["self"] ["self"] (defScope s_Flight___iter__) := ⟨rfl, rfl, rfl, by decide +kernel, rfl, by decide +kernel, by decide +kernel⟩
abbrev s_Flight___len__ : Stmt := inClass (topS 66) 2
theorem sc_Flight___len__ : FnScope ["self"] ["self"] (defScope s_Flight___len__) := ⟨rfl, rfl, rfl, by decide +kernel, rfl, by decide +kernel, by decide +kernel⟩
theorem lk_Fl_events {tu tl te : Addr} : List.lookup ("events" : Str) (flF tu tl te) = some (.ref te : V) := by unfold flF; repeat (first | exact lk_hit | rw [lk_miss (by decide +kernel)])
theorem passAll {X : Cx} {W : WX} (tk : Takes X W) : Passes (L2.CX X.prog X.w) X (fun c d H => ∀ σ, W c d σ H) := fun _ σ _ _ e s' I c => tk e s' (XE.of_call I (fun _ _ _ h => h σ) c)
theorem passOut {X : Cx} {E : XK} (hs : X.stack = X.env :: X.outer) (hf : X.env.frame = some X.env.locals) (hex : X.ex = []) {E₁ : Value → Shared → Prop}
    (hx : X.xe = fun e s' => wpAny (model X.prog X.w) X.A (leaving X.env e) (fun _ s'' => L2.CX X.prog X.w X.outer X.H_0 X.s_0 E e s'') E₁ s') : Passes (L2.CX X.prog X.w) X E :=
  passes_call (takes_of hs hf hex hx) fun _ _ _ _ h => h
section
variable {P : Program} {w : World} {K : PySem.W.Frag} {mg : Str → Option Value} {base : Heap} {CL CS CT CR CP CW aS aR fS fT fR fP CB CF : Addr}
theorem MAt.okX {C : Addr} {m qual : Str} {st : Stmt} {ps N : List Str} {k : Nat} {sp : Sp} (F : MAt K C m qual st ps) (S : FnScope N ps (defScope st)) (len : ∀ vs H Q E, sp vs H Q E → vs.length = ps.length)
    (hbody : ∀ (f : Addr) (cdv : Value) (A : Around) (outer : List Env) (s : Shared) (H : Hp) (vs : List V) (Q : VK) (E : XK), Room k (A.deeper (envOfC qual (defScope st) s.heap.objs.size f cdv)) → sp vs H Q E →
      ∃ t, PSs (cxOf (L2.CX P w) P w K mg base N qual (defScope st) f cdv A outer s H E) (defBody st) t ∧ t { nx := fun _ H' => Q .non H', rt := Q } (start N vs) H) : MDef P w K mg base (L2.CX P w) (k + 1) C m ps [] sp := by
  obtain ⟨f, fd, G, M, b⟩ := F.ex
  exact ⟨f, fd, [], G.okX S len (fun cdv A outer s H vs Q E hr h => hbody f cdv A outer s H vs Q E hr h), M, b, .nil⟩
theorem d_fl_iter (TF : TxtFl K mg CF) (BI : mg "iter" = none) (A : MAt K CF "__iter__" "Flight.__iter__" s_Flight___iter__ ["self"]) : MDefS P w K mg base 1 CF "__iter__" ["self"] (spIterT K CF "events") := by
  refine MAt.okS A sc_Flight___iter__ (fun s vs H Q E h => ?_) (fun f cdv A outer s H vs Q E hr h => ?_)
  · obtain ⟨x, dx, te, fs, ys, rfl, _⟩ := h
    rfl
  obtain ⟨x, dx, te, fs, ys, rfl, hx, hl, ht, q⟩ := h
  refine ⟨_, pss_one (ps_ret (pe_callB call_iterT (by rfl) BI (by decide +kernel) (pa_cons (pe_fld (pv 0) rfl) pa_nil))), ?_⟩
  exact ⟨_, rfl, x, CF, dx, _, _, rfl, hx, TF.c.cl, TF.n_events, hl, te, ys, rfl, ht, fun it h1 h2 => q it h1 h2⟩
theorem d_fl_len (B : Bt mg) (TF : TxtFl K mg CF) (A : MAt K CF "__len__" "Flight.__len__" s_Flight___len__ ["self"]) : MDef P w K mg base CX0 1 CF "__len__" ["self"] [] (spLenT K CF "events") := by
  refine A.ok sc_Flight___len__ (fun vs H Q E h => ?_) (fun f cdv A outer s H vs Q E hr h => ?_)
  · obtain ⟨x, dx, te, fs, ys, rfl, _⟩ := h
    rfl
  obtain ⟨x, dx, te, fs, ys, rfl, hx, hl, ht, q⟩ := h
  refine ⟨_, pss_one (ps_ret (pe_callB (call_len_seq) (by rfl) B.len (by decide +kernel) (pa_cons (pe_fld (pv 0) rfl) pa_nil)))
    , ?_⟩
  exact ⟨_, rfl, x, CF, dx, _, _, rfl, hx, TF.c.cl, TF.n_events, hl, te, ys, rfl, .inr ht, q⟩
/-- a pair with too many or too few entries for the recordings -/
def BadMade (K : PySem.W.Frag) (H : Hp) (W : WorldD) (v : V) : Prop := ∃ (t tm tt : Addr) (xm : List V), v = .ref t ∧ SqT K H t [.ref tm, .ref tt] ∧ SqT K H tm xm ∧ xm.length ≠ W.recs.length
theorem BadMade.same {H H' : Hp} {W : WorldD} {v : V} (h : BadMade K H W v) (s : Same H H') : BadMade K H' W v := by
  obtain ⟨t, tm, tt, xm, h1, h2, h3, h4⟩ := h
  exact ⟨t, tm, tt, xm, h1, Same.tup s h2, Same.tup s h3, h4⟩
def spBadM (K : PySem.W.Frag) (CS CT CR CP CW CB : Addr) : Sp := fun vs H _ E => ∃ (ac : Addr) (W : WorldD) (v : V), vs = [.ref ac, v] ∧ WorldAt K CS CT CR CP CW H ac W ∧ BadMade K H W v ∧ ∀ H', Same H H' → E (.ref CB) none H'
theorem d_check_caseB (T : TxtW K mg CL CS CT CR CP CW aS aR fS fT fR fP) (TE : TxtE K mg CB) (D_is_tuple_of : DefOk P w K mg base CX0 1 "is_tuple_of" ["thing", "many"] (spIsTup K)) (A : At K mg "check_case" s_check_case ["world", "case"]) :
    DefOk P w K mg base (L2.CX P w) 3 "check_case" ["world", "case"] (spBadM K CS CT CR CP CW CB) := by
  have B := T.L.B
  refine A.okX sc_check_case (fun vs H Q E h => ?_) (fun f cdv A outer s H vs Q E hr h => ?_)
  · obtain ⟨ac, W, v, rfl, _⟩ := h
    rfl
  obtain ⟨ac, W, v, rfl, hW, ⟨t, tm, tt, xm, rfl, ht, hm, hne⟩, qe⟩ := h
  obtain ⟨dx, t0, t1, t2, t3, x0, x1, x2, x3, gw, _, _, _, _, p2, q2, p3, q3⟩ := hW.ex
  have l2 := paired_len q2
  have noX : ∀ {ss : List Stmt}, PSs (cxOf (L2.CX P w) P w K mg base ["world", "case", "made", "taken", "entry"] "check_case" (defScope s_check_case) f cdv A outer s H E) ss (fun _ _ _ => False) := ⟨fun pins s σ H D I h => h.elim⟩
  refine ⟨_, pss_cons (ps_if (pt_not (pt_val (pe_f D_is_tuple_of (hr.mono (by omega)) pass0 (pa_cons (pv 1) (pa_cons pe_int pa_nil))))) noX pss_nil)
    (pss_cons (ps_asg (pv 1) (pg_tup (by rfl) (pgs_cons (pg_name (i := 2) sc_check_case.nd rfl (Or.inl rfl)) (pgs_cons (pg_name (i := 3) sc_check_case.nd rfl (Or.inl rfl)) pgs_nil))))
      (pss_cons (ps_if (pt_not (pt_val (pe_f D_is_tuple_of (hr.mono (by omega)) pass0 (pa_cons (pv 2) (pa_cons (pe_callB (call_len_seq) (by rfl) B.len (by decide +kernel) (pa_cons (pe_fld (pv 0) rfl) pa_nil)) pa_nil)))))
        (pss_one (ps_raise rfl (takes_of rfl rfl rfl rfl) (pmk_own PySem.F.excBase_ValueError TE.xB TE.gB TE.kB (raises_own TE.bB TE.tB) rfl))) pss_nil) noX)), ?_⟩
  refine ⟨_, rfl, t, _, 2, rfl, ht, _, rfl, iteF' rfl ?_⟩
  refine ⟨_, rfl, t, _, rfl, ht, rfl, _, _, rfl, _, _, rfl, rfl, ?_⟩
  refine ⟨_, rfl, _, rfl, ac, CW, dx, _, _, rfl, gw, T.c_World.cl, T.n_World_recordings, lk_World_recordings, t2, x2, rfl, .inr p2, tm, xm, _, rfl, hm, _, rfl, iteT' ?_ (qe _ (Same.refl _))⟩
  show (!decide (V.int (xm.length : Int) = V.int (x2.length : Int))) = true
  rw [decide_eq_false (fun e => hne (by have := V.int.inj e; omega))]
  rfl
def spFlightX (K : PySem.W.Frag) (CS CT CR CP CW CB : Addr) : Sp := fun vs H _ E => ∃ (x ac : Addr) (W : WorldD) (v : V), vs = [.ref x, .ref ac, v] ∧ WorldAt K CS CT CR CP CW H ac W ∧ BadMade K H W v ∧ ∀ H', Same H H' → E (.ref CB) none H'
theorem dI_FlightX (D_check_case : DefOk P w K mg base (L2.CX P w) 3 "check_case" ["world", "case"] (spBadM K CS CT CR CP CW CB)) (A : MAt K CF "__init__" "Flight.__init__" s_Flight___init__ ["self", "world", "case"]) : MDef P w K mg base (L2.CX P w) 6 CF "__init__" ["self", "world", "case"] [] (spFlightX K CS CT CR CP CW CB) := by
  refine MAt.okX A sc_Flight___init__ (fun vs H Q E h => ?_) (fun f cdv A outer s H vs Q E hr h => ?_)
  · obtain ⟨x, ac, W, v, rfl, _⟩ := h
    rfl
  obtain ⟨x, ac, W, v, rfl, hW, bad, qe⟩ := h
  refine ⟨_, pss_cons (ps_expr (pe_f D_check_case (hr.mono (by omega)) (passOut rfl rfl rfl rfl) (pa_cons (pv 1) (pa_cons (pv 2) pa_nil)))) (⟨fun pins s σ H D I h => h.elim⟩ : PSs _ _ (fun _ _ _ => False)), ?_⟩
  exact ⟨_, rfl, _, rfl, ac, W, v, rfl, hW, bad, qe⟩
end
end DP
namespace DP
open PySem PySem.Spec PyProof.Rows L2
theorem perm_split {α : Type} (f g : Nat → List α) : ∀ n : Nat, ((List.range n).flatMap fun s => f s ++ g s).Perm ((List.range n).flatMap f ++ (List.range n).flatMap g)
  | 0 => .refl _
  | n + 1 => by
    rw [List.range_succ, List.flatMap_append, List.flatMap_append, List.flatMap_append, List.flatMap_singleton, List.flatMap_singleton, List.flatMap_singleton]
    refine ((perm_split f g n).append_right _).trans ?_
    rw [List.append_assoc, List.append_assoc]
    refine List.Perm.append_left _ ?_
    rw [← List.append_assoc, ← List.append_assoc]
    exact List.perm_append_comm.append_right _
theorem flat_none {α : Type} {f : Nat → List α} : ∀ {n : Nat}, (∀ s, s < n → f s = []) → (List.range n).flatMap f = []
  | 0, _ => rfl
  | n + 1, h => by
    rw [List.range_succ, List.flatMap_append, List.flatMap_singleton, flat_none fun s hs => h s (by omega), h n (by omega)]
    rfl
theorem flat_one {α : Type} {x : List α} {k : Nat} : ∀ {n : Nat}, k < n → ((List.range n).flatMap fun s => if s = k then x else []) = x
  | 0, h => absurd h (by omega)
  | n + 1, h => by
    rw [List.range_succ, List.flatMap_append, List.flatMap_singleton]
    by_cases c : n = k
    · rw [if_pos c, flat_none fun s hs => if_neg (by omega)]
      rfl
    · rw [if_neg c, flat_one (by omega), List.append_nil]
theorem perm_cls {α β : Type} (g : α → List β) (p : Nat → α → Bool) (n : Nat) : ∀ l : List α, (∀ a ∈ l, ∃ k, k < n ∧ ∀ s, p s a = decide (s = k)) → ((List.range n).flatMap fun s => (l.filter (p s)).flatMap g).Perm (l.flatMap g)
  | [], _ => by
    rw [flat_none (f := fun s => (([] : List α).filter (p s)).flatMap g) fun s _ => rfl]
    exact .refl _
  | a :: l, h => by
    obtain ⟨k, hk, hp⟩ := h a List.mem_cons_self
    have e : (fun s => ((a :: l).filter (p s)).flatMap g) = fun s => (if s = k then g a else []) ++ (l.filter (p s)).flatMap g := by
      funext s
      rw [List.filter_cons, hp]
      by_cases c : s = k
      · rw [decide_eq_true c, if_pos rfl, if_pos c, List.flatMap_cons]
      · rw [decide_eq_false c, if_neg Bool.false_ne_true, if_neg c, List.nil_append]
    rw [e]
    refine (perm_split _ _ n).trans ?_
    rw [flat_one hk, List.flatMap_cons]
    exact (perm_cls g p n l fun b hb => h b (List.mem_cons_of_mem _ hb)).append_left _
/-- the law's events, satellite by satellite -/
def satEv (W : WorldD) (c : CaseD) (s : Nat) : List Ev := (madeS W c s W.recs.length).flatMap (recEv W) ++ (takS W c s W.pass.length).flatMap (pasEv W)
def lawEv (W : WorldD) (c : CaseD) (n : Nat) : List Ev := (List.range n).flatMap (satEv W c)
theorem lawEv_succ (W : WorldD) (c : CaseD) (n : Nat) : lawEv W c (n + 1) = lawEv W c n ++ satEv W c n := by
  unfold lawEv
  rw [List.range_succ, List.flatMap_append, List.flatMap_singleton]
theorem law_perm {W : WorldD} (wok : WorldOk W) (c : CaseD) : (lawEv W c W.sats.length).Perm (eventsL W c) := by
  refine (perm_split _ _ _).trans (List.Perm.append ?_ ?_)
  · refine perm_cls (recEv W) (fun s q => satOf W s q.1) W.sats.length (madeL W c W.recs.length) fun q hq => ?_
    obtain ⟨_, z, y, hz, _⟩ := mem_made hq
    refine ⟨z.sat, (wok.recs z (List.mem_of_getElem? hz)).sat, fun s => ?_⟩
    show satOf W s q.1 = _
    unfold satOf
    rw [hz]
    exact decide_eq_decide.mpr ⟨Eq.symm, Eq.symm⟩
  · have e : (fun s => (takS W c s W.pass.length).flatMap (pasEv W)) = fun s => ((takL W c W.pass.length).filter (satP W s)).flatMap (pasEv W) := by
      funext s
      rw [takS_filter]
    rw [e]
    refine perm_cls (pasEv W) (satP W) W.sats.length (takL W c W.pass.length) fun p hp => ?_
    have hlt := (mem_tak hp).1
    have hz : W.pass[p]? = some W.pass[p] := List.getElem?_eq_getElem hlt
    refine ⟨W.pass[p].sat, (wok.pass _ (List.mem_of_getElem? hz)).sat, fun s => ?_⟩
    unfold satP
    rw [hz]
    exact decide_eq_decide.mpr ⟨Eq.symm, Eq.symm⟩
theorem evC_anti {a b : Ev} (ha : EvOk a) (hb : EvOk b) (h1 : evC a ≤ evC b) (h2 : evC b ≤ evC a) : a = b := by
  obtain ⟨a1, a2, a3⟩ := a
  obtain ⟨b1, b2, b3⟩ := b
  obtain ⟨p1, p2, p3⟩ := ha
  obtain ⟨q1, q2, q3⟩ := hb
  have e : ∀ x y z : Nat, evC (x, y, z) = (x : Int) * 1000000 + ((y : Int) * 1000 + ((z : Int) * 1 + 0)) := fun _ _ _ => rfl
  rw [e, e] at h1 h2
  dsimp only at p1 p2 p3 q1 q2 q3
  have r1 : a1 = b1 := by omega
  subst r1
  have r2 : a2 = b2 := by omega
  subst r2
  have r3 : a3 = b3 := by omega
  rw [r3]
theorem sorted_same {l m n : List Ev} (h : ∀ e ∈ n, EvOk e) (p : n.Perm l) (q : n.Perm m) (sl : l.Pairwise fun a b => evC a ≤ evC b) (sm : m.Pairwise fun a b => evC a ≤ evC b) : l = m :=
  List.Perm.eq_of_pairwise (le := fun a b => evC a ≤ evC b) (fun a b ha hb h1 h2 => evC_anti (h a (p.mem_iff.mpr ha)) (h b (q.mem_iff.mpr hb)) h1 h2) sl sm (p.symm.trans q)
theorem satEv_len {W : WorldD} (wok : WorldOk W) (c : CaseD) (n : Nat) (hn : n ≤ W.sats.length) : (lawEv W c n).length ≤ 40 := by
  have h1 := (law_perm wok c).length_eq
  have h2 := events_len wok c
  have h3 : ∀ d : Nat, (lawEv W c n).length ≤ (lawEv W c (n + d)).length := fun d => by
    induction d with
    | zero => exact Nat.le_refl _
    | succ d ih =>
      rw [← Nat.add_assoc, lawEv_succ, List.length_append]
      omega
  have h4 := h3 (W.sats.length - n)
  rw [show n + (W.sats.length - n) = W.sats.length by omega] at h4
  omega
end DP
namespace DP
open PySem PySem.Spec PyProof.Rows L2
theorem op_catAK {X : Cx} {K : PySem.W.Frag} (h : X.K = K) : OpR X (binaryOp .Add) (rCatA K) := by subst h; exact op_catA
/-- what a sum of tuples gives, the same object or a new one -/
theorem catA_any {K : PySem.W.Frag} {H : Hp} {a b : Addr} {xs ys : List V} {Q : VK} (ha : SqT K H a xs) (hb : SqT K H b ys) (hl : xs.length + ys.length ≤ sizeLine) (k : ∀ r H', Same H H' → SqT K H' r (xs ++ ys) → Q (.ref r) H') : rCatA K (.ref a) (.ref b) H Q :=
  ⟨a, b, xs, ys, rfl, rfl, ha, hb, hl, fun e => k b H (Same.refl _) (by rw [e]; exact hb), fun _ e => k a H (Same.refl _) (by rw [e, List.append_nil]; exact ha), fun _ _ p hp => k p _ (same_new hp _) (SqT.of upd_same)⟩
end DP
namespace DP
open PySem PySem.Spec PyProof.Rows L2
abbrev s_law : Stmt := topS 86
theorem sc_law : FnScope ["script", "world", "actual", "case", "found", "s", "r", "start", "p", "words", "expected", "flight", "event"] ["script"] (defScope s_law) := ⟨rfl, rfl, rfl, by decide +kernel, rfl, by decide +kernel, by decide +kernel⟩
theorem fit_evs {l : List Ev} (h : l.length ≤ 1000) (n : Nat) : Fit (n + 3) (.list (l.map evPy)) := by
  refine ⟨by rw [List.length_map]; exact h, fun d hd => ?_⟩
  obtain ⟨e, _, rfl⟩ := List.mem_map.mp hd
  refine ⟨by show 3 ≤ 1000; decide, fun d hd => ?_⟩
  rcases List.mem_cons.mp hd with rfl | hd
  · exact True.intro
  rcases List.mem_cons.mp hd with rfl | hd
  · exact True.intro
  · rw [List.mem_singleton.mp hd]; exact True.intro
section
variable {P : Program} {w : World} {K : PySem.W.Frag} {mg : Str → Option Value} {base : Heap} {CL CS CT CR CP CW aS aR fS fT fR fP CB CF : Addr}
def spLaw (K : PySem.W.Frag) : Sp := fun vs H Q _ => ∃ (a : Addr) (ns : List Int), vs = [.ref a] ∧ SqL K H a (ns.map V.int) ∧ ∀ H', Q (.bl true) H'
set_option maxHeartbeats 16000000 in
theorem d_law (T : TxtW K mg CL CS CT CR CP CW aS aR fS fT fR fP) (TF : TxtFl K mg CF) (TE : TxtE K mg CB) (BS : mg "sorted" = none) (D_law_cell : DefOk P w K mg base CX0 1 "_law_cell" ["script", "k"] (DP.spCell K)) (D_law_world : DefOk P w K mg base CX0 4 "_law_world" ["script"] (spWorld K)) (D_law_text : DefOk P w K mg base CX0 2 "_law_text" ["world"] (spLawText K))
    (D_law_case : DefOk P w K mg base CX0 3 "_law_case" ["script", "first", "world", "open_too"] (spCase K)) (D_law_same : DefOk P w K mg base CX0 9 "_law_same" ["actual", "expected"] (spSame K 8)) (D_law_made : DefOk P w K mg base CX0 2 "_law_made" ["world", "case", "s"] (spLawMade K)) (D_law_taken : DefOk P w K mg base CX0 2 "_law_taken" ["world", "case", "s"] (spLawTaken K))
    (DI_Flight : MDef P w K mg base CX0 6 CF "__init__" ["self", "world", "case"] [] (spFlight K CS CT CR CP CW CF)) (DI_FlightX : MDef P w K mg base (L2.CX P w) 6 CF "__init__" ["self", "world", "case"] [] (spFlightX K CS CT CR CP CW CB))
    (D_fl_iter : MDefS P w K mg base 1 CF "__iter__" ["self"] (spIterT K CF "events")) (D_fl_len : MDef P w K mg base CX0 1 CF "__len__" ["self"] [] (spLenT K CF "events"))
    (D_World_parse : SDef P w K mg base CX0 7 CW "parse" ["text"] (spParse K CS CT CR CP CW)) (A : At K mg "law" s_law ["script"]) : DefOk P w K mg base CX0 10 "law" ["script"] (spLaw K) := by
  have B := T.L.B
  refine A.ok sc_law (fun vs H Q E h => ?_) (fun f cdv A outer s H0 vs Q E hr h => ?_)
  · obtain ⟨a, ns, rfl, _⟩ := h
    rfl
  obtain ⟨a, ns, rfl, hS, q⟩ := h
  have hr1 : Room 7 _ := hr.mono (by omega)
  refine ⟨_, pss_cons (ps_set (i := 1) sc_law.nd rfl (Or.inl rfl) (pe_f D_law_world (hr.mono (by omega)) pass0 (pa_cons (pv 0) pa_nil)))
  (pss_cons (ps_set (i := 2) sc_law.nd rfl (Or.inl rfl) (pe_smeth D_World_parse T.rdW (hr.mono (by omega)) pass0 (pe_ga T.c_World.gC) (pa_cons (pe_f D_law_text (hr.mono (by omega)) pass0 (pa_cons (pv 1) pa_nil)) pa_nil)))
  (pss_cons (ps_set (i := 3) sc_law.nd rfl (Or.inl rfl) (pe_f D_law_case (hr.mono (by omega)) pass0 (pa_cons (pv 0) (pa_cons pe_int (pa_cons (pv 1) (pa_cons (pe_cmpR op_eq (pe_op op_mod (pe_f D_law_cell (hr.mono (by omega)) pass0 (pa_cons (pv 0) (pa_cons pe_int pa_nil))) pe_int) pe_int (nomark _)) pa_nil))))))
  (pss_cons (ps_set (i := 4) sc_law.nd rfl (Or.inl rfl) (pe_lst pa_nil))
  (pss_cons (ps_for PassesOwn.never rfl (pi_range1 (by rfl) B.range (pa_cons (pe_callB (call_len_seq) (by rfl) B.len (by decide +kernel) (pa_cons (pe_dget (hu_of hr) (pv 1) pe_str (fun _ _ => rfl)) pa_nil)) pa_nil)) (pg_name (i := 5) sc_law.nd rfl (Or.inl rfl))
      (pss_cons (ps_for PassesOwn.never rfl (pi_list (pe_f D_law_made (hr.mono (by omega)) pass0 (pa_cons (pv 1) (pa_cons (pv 3) (pa_cons (pv 5) pa_nil))))) (pg_tup (by rfl) (pgs_cons (pg_name (i := 6) sc_law.nd rfl (Or.inl rfl)) (pgs_cons (pg_name (i := 7) sc_law.nd rfl (Or.inl rfl)) (pgs_cons (pg_name (i := 8) sc_law.nd rfl (Or.inl rfl)) (pgs_nil)))))
          (pss_cons (ps_expr (pe_bm PySem.F.plainAttrs_list PySem.F.slot_list_append PySem.F.type_list_append mt_append (pv 4) (pa_cons (pe_tup (pa_cons (pv 7) (pa_cons pe_int (pa_cons (pv 6) pa_nil)))) pa_nil)))
          (pss_one (ps_expr (pe_bm PySem.F.plainAttrs_list PySem.F.slot_list_append PySem.F.type_list_append mt_append (pv 4) (pa_cons (pe_tup (pa_cons (pe_op op_add (pv 7) (pe_ix ix_tup (pe_ix ix_tup (pe_ix ix_list (pe_dget (hu_of hr) (pv 1) pe_str (fun _ _ => rfl)) (pv 6) (fun _ _ => rfl)) pe_int (fun _ _ => rfl)) pe_int (fun _ _ => rfl))) (pa_cons pe_int (pa_cons (pv 6) pa_nil)))) pa_nil))))))
      (pss_one (ps_for PassesOwn.never rfl (pi_list (pe_f D_law_taken (hr.mono (by omega)) pass0 (pa_cons (pv 1) (pa_cons (pv 3) (pa_cons (pv 5) pa_nil))))) (pg_name (i := 8) sc_law.nd rfl (Or.inl rfl))
          (pss_cons (ps_expr (pe_bm PySem.F.plainAttrs_list PySem.F.slot_list_append PySem.F.type_list_append mt_append (pv 4) (pa_cons (pe_tup (pa_cons (pe_ix ix_tup (pe_ix ix_tup (pe_ix ix_list (pe_dget (hu_of hr) (pv 1) pe_str (fun _ _ => rfl)) (pv 8) (fun _ _ => rfl)) pe_int (fun _ _ => rfl)) pe_int (fun _ _ => rfl)) (pa_cons pe_int (pa_cons (pv 8) pa_nil)))) pa_nil)))
          (pss_one (ps_expr (pe_bm PySem.F.plainAttrs_list PySem.F.slot_list_append PySem.F.type_list_append mt_append (pv 4) (pa_cons (pe_tup (pa_cons (pe_ix ix_tup (pe_ix ix_tup (pe_ix ix_list (pe_dget (hu_of hr) (pv 1) pe_str (fun _ _ => rfl)) (pv 8) (fun _ _ => rfl)) pe_int (fun _ _ => rfl)) pe_int (fun _ _ => rfl)) (pa_cons pe_int (pa_cons (pv 8) pa_nil)))) pa_nil)))))))))
  (pss_cons (ps_set (i := 9) sc_law.nd rfl (Or.inr rfl) (pe_lst (pa_cons pe_str (pa_cons pe_str (pa_cons pe_str (pa_cons pe_str pa_nil))))))
  (pss_cons (ps_setLc (own := [("event", 12)]) (i := 10) rfl sc_law.nd rfl rfl (sw_true rfl rfl rfl (by decide +kernel)) (pi_list (pe_callB (cr_sortT (d := 3) (B := 1000) (by decide)) (by rfl) BS (by decide +kernel) (pa_cons (pv 4) pa_nil))) (blkOk_by (own := [("event", 12)]) (N := ["script", "world", "actual", "case", "found", "s", "r", "start", "p", "words", "expected", "flight", "event"]) (sc := defScope s_law) (by decide +kernel)) (fun _ _ _ _ _ => pg_name (i := 12) sc_law.nd rfl (Or.inl rfl)) (fun _ _ _ _ _ => pts_nil) (fun _ _ _ _ _ => (pe_tup (pa_cons (pe_ix (ix_tupK (K := K) rfl) (pv 12) pe_int (fun _ _ => rfl)) (pa_cons (pe_ix (ix_listK (K := K) rfl) (pv 9) (pe_ix (ix_tupK (K := K) rfl) (pv 12) pe_int (fun _ _ => rfl)) (fun _ _ => rfl)) (pa_cons (pe_ix (ix_tupK (K := K) rfl) (pv 12) pe_int (fun _ _ => rfl)) pa_nil))))))
  (pss_cons (ps_set (i := 11) sc_law.nd rfl (Or.inl rfl) (pe_mk DI_Flight TF.c (hr.mono (by omega)) pass0 (pa_cons (pv 2) (pa_cons (pv 3) pa_nil))))
  (pss_cons (ps_if (PW.pt (pw_or (pt_not (pt_val (pe_f D_law_same (hr.mono (by omega)) pass0 (pa_cons (pe_lc (own := [("event", 12)])  rfl sc_law.nd (pi_ownT D_fl_iter (hr.mono (by omega)) (pv 11)) (blkOk_by (own := [("event", 12)]) (N := ["script", "world", "actual", "case", "found", "s", "r", "start", "p", "words", "expected", "flight", "event"]) (sc := defScope s_law) (by decide +kernel)) (fun _ _ _ _ _ => pg_name (i := 12) sc_law.nd rfl (Or.inl rfl)) (fun _ _ _ _ _ => pts_nil) (fun _ _ _ _ _ => (pv 12))) (pa_cons (pv 10) pa_nil))))) (pw_or1 (pt_not (pt_val (pe_f D_law_same (hr.mono (by omega)) pass0 (pa_cons (pe_callTy (call_listOwnT D_fl_iter D_fl_len (hr.mono (by omega))) (by rfl) B.list (by decide +kernel) (pa_cons (pv 11) pa_nil)) (pa_cons (pv 10) pa_nil))))))))
      (pss_one (ps_ret pe_bl))
      (pss_nil))
  (pss_cons (ps_if (pt_not (pt_val (pe_f D_law_same (hr.mono (by omega)) pass0 (pa_cons (pe_callB (call_lenOwnT D_fl_len (hr.mono (by omega))) (by rfl) B.len (by decide +kernel) (pa_cons (pv 11) pa_nil)) (pa_cons (pe_callB (call_len_seq) (by rfl) B.len (by decide +kernel) (pa_cons (pv 10) pa_nil)) pa_nil)))))
      (pss_one (ps_ret pe_bl))
      (pss_nil))
  (pss_cons (ps_try_only (ts := fun _ _ _ => tRet (tC (V.bl true))) (Wout := fun _ _ _ _ => False) rfl rfl ⟨rfl, by decide, Or.inl TE.gB⟩ takes0 (fun W pn xe tk _ => pss_one (ps_expr (by exact (pe_mk DI_FlightX TF.c hr1 (passAll tk) (pa_cons (pv 2) (pa_cons (pe_tup (pa_cons (pe_op (op_catAK (K := K) rfl) (pe_ix (ix_tupK (K := K) rfl) (pv 3) pe_int (fun _ _ => rfl)) (pe_tup (pa_cons pe_non pa_nil))) (pa_cons (pe_ix (ix_tupK (K := K) rfl) (pv 3) pe_int (fun _ _ => rfl)) pa_nil))) pa_nil)))))) (fun a oe cls d pn hz hf => pss_one (ps_ret pe_bl)))
  (pss_one (ps_ret pe_bl))))))))))))
    , ?_⟩
  refine ⟨_, rfl, a, ns, rfl, hS, fun wd H1 W n0 s1 wg hwd => ?_⟩
  refine ⟨rfl, _, rfl, wd, W, rfl, wg, hwd, fun H2 s2 => ⟨W, rfl, wg.ok, fun ac H3 nA s3 hW => ?_⟩⟩
  refine ⟨_, rfl, _, rfl, _, rfl, a, ns, 28, rfl, s3.seq (s2.seq (s1.seq hS)), by decide, fun u => ?_⟩
  refine ⟨_, _, rfl, rfl, (by show (0 : Int) < _; decide), rfl, a, ns, 24, wd, W, _, rfl, s3.seq (s2.seq (s1.seq hS)), by decide, wg, (hwd.same s2).same s3, fun v H4 c s4 cg dpc => ?_⟩
  generalize decide (V.int (u % 2) = V.int 1) = o at cg
  have hwd := ((hwd.same s2).same s3).same s4
  have hW := hW.same s4
  have wok := wg.ok
  have hh := wok.horizon
  have nM := cg.nM
  have nR := wok.nRecs
  have nP := wok.nPass
  clear hS s1 s2 s3 s4
  have nS := wok.nSats
  refine ⟨Nat.zero_le _, fun D hD => ?_⟩
  have sD := same_new hD (.lst [])
  have hD5 : DL K ev3 (upd H4 D (.lst [])) D [] := DL.nil
  generalize upd H4 D (.lst []) = H5 at sD hD5
  obtain ⟨wa, wb, wc, we, xa, xb, xc, xd, g, a1, a2, b1, b2, c1, c2, d1, d2⟩ := hwd.ex
  have m0 := dpAll_len a2
  rw [List.length_map] at m0
  have z0 : ∀ i : Nat, (0 + (i : Int)) = (i : Int) := fun i => Int.zero_add _
  refine ⟨_, rfl, wd, _, rfl, get_s (sD _ _ g), wa, xa, rfl, .inl (SqL.of (sD _ _ a1)), _, rfl, by omega, by omega, for_range (lo := 0) (n := (xa.length : Int).toNat) (fun i σ H' => ∃ y5 y6 y7 y8, σ = [some (.ref a), some (.ref wd), some (.ref ac), some v, some (.ref D), y5, y6, y7, y8, none, none, none, none] ∧ Same H4 H' ∧ DL K ev3 H' D (lawEv W c i))
    ⟨none, none, none, none, rfl, sD, hD5⟩ (fun i σ H6 hi hI => ?_) (fun σ H6 hI => ?_)⟩
  · obtain ⟨y5, y6, y7, y8, rfl, hs, dD⟩ := hI
    have hi' : i < W.sats.length := by omega
    have lE := satEv_len wok c i (Nat.le_of_lt hi')
    refine ⟨_, rfl, _, rfl, _, rfl, wd, v, W, o, c, i, by rw [z0]; rfl, wok, hwd.same hs, cg, dp_same hs dpc, fun M H7 s7 nM7 hM => ?_⟩
    have d7 := dD.same s7
    obtain ⟨xd7, hD7, _⟩ := id d7
    obtain ⟨xm, hM1, hM2⟩ := hM
    have lM := dpAll_len hM2
    rw [List.length_map] at lM
    have nDM : M ≠ D := fun z => by
      obtain ⟨xq, hq, _⟩ := dD
      rw [z, hq] at nM7
      cases nM7
    have lm1 : (madeS W c i W.recs.length).length ≤ 10 := Nat.le_trans (Nat.le_trans (List.length_filter_le _ _) (madeL_len W c _)) (by omega)
    have el : ∀ j, (((madeS W c i W.recs.length).take j).flatMap (recEv W)).length ≤ 20 := fun j => by
      have h1 := flat_len2 (recEv_len W) ((madeS W c i W.recs.length).take j)
      rw [List.length_take] at h1
      omega
    have hs7 := hs.trans s7
    refine ⟨M, rfl, ⟨_, SqL.of hM1⟩, ?_⟩
    refine for_it (walk_list (K := K) (a := M) (xs := xm)) (fun j σ H' => ∃ y6 y7 y8, σ = [some (.ref a), some (.ref wd), some (.ref ac), some v, some (.ref D), some (.int (0 + (i : Int))), y6, y7, y8, none, none, none, none] ∧ SameX D H7 H' ∧ DL K ev3 H' D (lawEv W c i ++ ((madeS W c i W.recs.length).take j).flatMap (recEv W)))
      ⟨_, _, _, rfl, SameX.refl _ _, (by show DL K ev3 H7 D (_ ++ []); rw [List.append_nil]; exact d7)⟩ (fun j σ H' _ hI => ?_) (fun j v' σ H8 H9 hj hI hy => ?_) (fun σ H8 hI => ?_)
    · obtain ⟨y6, y7, y8, rfl, hx, _⟩ := hI
      exact SqL.of (hx _ _ nDM hM1)
    · obtain ⟨y6, y7, y8, rfl, hx, hd⟩ := hI
      obtain ⟨rfl, hxj⟩ := hy
      obtain ⟨q1, hq1, dq1⟩ := dpAll_get (dpAll_sx (noLs_map noL_trip _) hD7 hx hM2) hxj
      obtain ⟨r0, z, y, hz, _, hy2, p0, ho, _⟩ := mem_madeS (List.mem_of_getElem? hq1)
      obtain ⟨tt, rfl, htt⟩ := dp_trip dq1
      have zok := wok.recs z (List.mem_of_getElem? hz)
      have k1 := zok.earliest
      have k3 := zok.length
      unfold isOpt at ho
      have o1 := of_decide_eq_true (Bool.and_eq_true_iff.mp ho).1
      have ft := fm_take (g := recEv W) hq1
      have rt : recEv W q1 = [(q1.2.1.toNat, 2, q1.1), ((q1.2.1 + z.length).toNat, 0, q1.1)] := by
        unfold recEv
        rw [hz]
      have l0 := el j
      refine ⟨tt, _, rfl, htt, rfl, _, _, rfl, _, _, rfl, _, _, rfl, rfl, ?_⟩
      obtain ⟨xs0, hx0, _⟩ := id hd
      refine ⟨_, rfl, .inl ⟨rfl, _, SqL.of hx0⟩, _, rfl, _, rfl, (by show 3 ≤ sizeLine; decide), fun a1' h1 => ?_⟩
      have e1 := same_new h1 (.tup [.int q1.2.1, .int 2, .int (q1.1 : Int)])
      have tv : Dp K (upd H9 a1' (.tup [.int q1.2.1, .int 2, .int (q1.1 : Int)])) (.ref a1') (ev3 (q1.2.1.toNat, 2, q1.1)) := .tup (SqT.of (by rw [upd_same, show ((q1.2.1.toNat : Nat) : Int) = q1.2.1 by omega]; rfl)) (.cons (.int _) (.cons (.int _) (.cons (.int _) .nil)))
      obtain ⟨xs, g1, g2, g3⟩ := (hd.same e1).push noL_ev3 tv (by rw [List.length_append]; omega)
      refine ⟨D, xs, _, rfl, rfl, g1, g2, ?_⟩
      have hs2 := (hx.trans (SameX.of e1)).at_ (o := .lst (xs ++ [.ref a1']))
      have hsH := sx_same hs7 hD hs2
      generalize upd (upd H9 a1' (.tup [.int q1.2.1, .int 2, .int (q1.1 : Int)])) D (.lst (xs ++ [.ref a1'])) = HA at g3 hs2 hsH
      obtain ⟨xs4, hx4, _⟩ := id g3
      obtain ⟨rx, erx, drx⟩ := dpAll_get2 c2 hz
      obtain ⟨rt0, rt1, rt2, rfl, u1, u2, u3⟩ := rec_open drx
      refine ⟨_, rfl, .inl ⟨rfl, _, SqL.of hx4⟩, _, rfl, _, rfl, wd, _, rfl, get_r (hsH _ _ g), _, rfl, wc, xc, (q1.1 : Int), _, rfl, rfl, SqL.of (hsH _ _ c1), atI_nat erx, rt0, _, 2, _, rfl, rfl, Same.tup hsH u1, rfl, rt1, _, 2, _, rfl, rfl, Same.tup hsH u2, rfl, _, _, rfl, rfl, _, rfl, (by show 3 ≤ sizeLine; decide), fun a2' h2 => ?_⟩
      have e2 := same_new h2 (.tup [.int (q1.2.1 + z.length), .int 0, .int (q1.1 : Int)])
      have tv2 : Dp K (upd HA a2' (.tup [.int (q1.2.1 + z.length), .int 0, .int (q1.1 : Int)])) (.ref a2') (ev3 ((q1.2.1 + z.length).toNat, 0, q1.1)) := .tup (SqT.of (by rw [upd_same, show (((q1.2.1 + z.length).toNat : Nat) : Int) = q1.2.1 + z.length by omega]; rfl)) (.cons (.int _) (.cons (.int _) (.cons (.int _) .nil)))
      obtain ⟨ys, v1, v2, v3⟩ := (g3.same e2).push noL_ev3 tv2 (by rw [List.length_append, List.length_append, List.length_singleton]; omega)
      refine ⟨D, ys, _, rfl, rfl, v1, v2, _, _, _, rfl, (hs2.trans (SameX.of e2)).at_, ?_⟩
      rw [ft, rt, show [(q1.2.1.toNat, 2, q1.1), ((q1.2.1 + z.length).toNat, 0, q1.1)] = [((q1.2.1.toNat, 2, q1.1) : Ev)] ++ [((q1.2.1 + z.length).toNat, 0, q1.1)] from rfl, ← List.append_assoc, ← List.append_assoc]
      exact v3
    · obtain ⟨y6, y7, y8, rfl, hx, hd⟩ := hI
      rw [lM, List.take_length] at hd
      have hs8 := sx_same hs7 hD hx
      have l8 := el (madeS W c i W.recs.length).length
      rw [List.take_length] at l8
      refine ⟨_, rfl, _, rfl, _, rfl, wd, v, W, o, c, i, by rw [z0]; rfl, wok, hwd.same hs8, cg, dp_same hs8 dpc, fun N HB sB nN hN => ?_⟩
      have dB := hd.same sB
      obtain ⟨xdB, hDB, _⟩ := id dB
      have nDN : N ≠ D := fun z => by
        obtain ⟨xq, hq, _⟩ := hd
        rw [z, hq] at nN
        cases nN
      have hsB := hs8.trans sB
      have lt1 : (takS W c i W.pass.length).length ≤ 10 := by
        have : (takS W c i W.pass.length).length ≤ W.pass.length := Nat.le_trans (List.length_filter_le _ _) (by rw [List.length_range]; exact Nat.le_refl _)
        omega
      refine ⟨N, rfl, ⟨_, SqL.of hN⟩, ?_⟩
      refine for_it (walk_list (K := K) (a := N) (xs := (takS W c i W.pass.length).map fun (p : Nat) => V.int (p : Int))) (fun j σ H' => ∃ y8, σ = [some (.ref a), some (.ref wd), some (.ref ac), some v, some (.ref D), some (.int (0 + (i : Int))), y6, y7, y8, none, none, none, none] ∧ SameX D HB H' ∧ DL K ev3 H' D (lawEv W c i ++ (madeS W c i W.recs.length).flatMap (recEv W) ++ ((takS W c i W.pass.length).take j).flatMap (pasEv W)))
        ⟨_, rfl, SameX.refl _ _, (by show DL K ev3 HB D (_ ++ []); rw [List.append_nil]; exact dB)⟩ (fun j σ H' _ hI => ?_) (fun j v' σ H9 HC hj hI hy => ?_) (fun σ H9 hI => ?_)
      · obtain ⟨y8, rfl, hx, _⟩ := hI
        exact SqL.of (hx _ _ nDN hN)
      · obtain ⟨y8, rfl, hx9, hd9⟩ := hI
        obtain ⟨rfl, hxj⟩ := hy
        rw [List.getElem?_map] at hxj
        cases hp : (takS W c i W.pass.length)[j]? with
        | none => rw [hp] at hxj; cases hxj
        | some p =>
          rw [hp] at hxj
          cases hxj
          obtain ⟨p0, _, z, hz, _, _⟩ := mem_takS (List.mem_of_getElem? hp)
          have zok := wok.pass z (List.mem_of_getElem? hz)
          have k1 := zok.first
          have k2 := zok.fin
          have ft := fm_take (g := pasEv W) hp
          have rt : pasEv W p = [(z.first.toNat, 3, p), (z.fin.toNat, 1, p)] := by
            unfold pasEv
            rw [hz]
          have l2 := flat_len2 (pasEv_len W) ((takS W c i W.pass.length).take j)
          rw [List.length_take] at l2
          obtain ⟨px, epx, dpx⟩ := dpAll_get2 d2 hz
          obtain ⟨pt0, pt1, pt2, rfl, w1, w2, w3⟩ := pas_open dpx
          have hs9 := sx_same hsB hD hx9
          obtain ⟨xs0, hx0, _⟩ := id hd9
          refine ⟨_, rfl, .inl ⟨rfl, _, SqL.of hx0⟩, _, rfl, wd, _, rfl, get_p (hs9 _ _ g), _, rfl, we, xd, (p : Int), _, rfl, rfl, SqL.of (hs9 _ _ d1), atI_nat epx, pt0, _, 3, _, rfl, rfl, Same.tup hs9 w1, rfl, pt1, _, 0, _, rfl, rfl, Same.tup hs9 w2, rfl, _, rfl, (by show 3 ≤ sizeLine; decide), fun a1' h1 => ?_⟩
          have e1 := same_new h1 (.tup [.int z.first, .int 3, .int (p : Int)])
          have tv : Dp K (upd HC a1' (.tup [.int z.first, .int 3, .int (p : Int)])) (.ref a1') (ev3 (z.first.toNat, 3, p)) := .tup (SqT.of (by rw [upd_same, show ((z.first.toNat : Nat) : Int) = z.first by omega]; rfl)) (.cons (.int _) (.cons (.int _) (.cons (.int _) .nil)))
          obtain ⟨xs, g1, g2, g3⟩ := (hd9.same e1).push noL_ev3 tv (by rw [List.length_append, List.length_append]; omega)
          refine ⟨D, xs, _, rfl, rfl, g1, g2, ?_⟩
          have hs2 := (hx9.trans (SameX.of e1)).at_ (o := .lst (xs ++ [.ref a1']))
          have hsH := sx_same hsB hD hs2
          generalize upd (upd HC a1' (.tup [.int z.first, .int 3, .int (p : Int)])) D (.lst (xs ++ [.ref a1'])) = HD at g3 hs2 hsH
          obtain ⟨xs4, hx4, _⟩ := id g3
          refine ⟨_, rfl, .inl ⟨rfl, _, SqL.of hx4⟩, _, rfl, wd, _, rfl, get_p (hsH _ _ g), _, rfl, we, xd, (p : Int), _, rfl, rfl, SqL.of (hsH _ _ d1), atI_nat epx, pt0, _, 3, _, rfl, rfl, Same.tup hsH w1, rfl, pt1, _, 1, _, rfl, rfl, Same.tup hsH w2, rfl, _, rfl, (by show 3 ≤ sizeLine; decide), fun a2' h2 => ?_⟩
          have e2 := same_new h2 (.tup [.int z.fin, .int 1, .int (p : Int)])
          have tv2 : Dp K (upd HD a2' (.tup [.int z.fin, .int 1, .int (p : Int)])) (.ref a2') (ev3 (z.fin.toNat, 1, p)) := .tup (SqT.of (by rw [upd_same, show ((z.fin.toNat : Nat) : Int) = z.fin by omega]; rfl)) (.cons (.int _) (.cons (.int _) (.cons (.int _) .nil)))
          obtain ⟨ys, v1, v2, v3⟩ := (g3.same e2).push noL_ev3 tv2 (by rw [List.length_append, List.length_append, List.length_append, List.length_singleton]; omega)
          refine ⟨D, ys, _, rfl, rfl, v1, v2, _, rfl, (hs2.trans (SameX.of e2)).at_, ?_⟩
          rw [ft, rt, show [(z.first.toNat, 3, p), (z.fin.toNat, 1, p)] = [((z.first.toNat, 3, p) : Ev)] ++ [(z.fin.toNat, 1, p)] from rfl, ← List.append_assoc, ← List.append_assoc]
          exact v3
      · obtain ⟨y8, rfl, hx9, hd9⟩ := hI
        rw [List.length_map, List.take_length] at hd9
        refine ⟨_, _, _, _, rfl, sx_same hsB hD hx9, ?_⟩
        rw [lawEv_succ]
        unfold satEv
        rw [← List.append_assoc]
        exact hd9
  obtain ⟨y5, y6, y7, y8, rfl, hs, dD⟩ := hI
  rw [show (xa.length : Int).toNat = W.sats.length by omega] at dD
  have hlp := law_perm wok c
  have okE := events_ok wok c
  have okL : ∀ e ∈ lawEv W c W.sats.length, EvOk e := fun e he => okE e (hlp.mem_iff.mp he)
  have lL := satEv_len wok c W.sats.length (Nat.le_refl _)
  refine ⟨(by show 4 ≤ sizeLine; decide), fun wq hwq => ?_⟩
  have sW := same_new hwq (.lst [V.str "recorded", V.str "sent", V.str "records", V.str "sends"])
  have hW6 : (upd H6 wq (.lst [V.str "recorded", V.str "sent", V.str "records", V.str "sends"])) wq = some (.lst ((["recorded", "sent", "records", "sends"] : List Str).map V.str)) := upd_same
  have dD := dD.same sW
  have hs := hs.trans sW
  generalize upd H6 wq (.lst [V.str "recorded", V.str "sent", V.str "records", V.str "sends"]) = H7 at dD hs hW6
  obtain ⟨xe, hDe, dDe⟩ := id dD
  have le := dpAll_len dDe
  rw [List.length_map] at le
  refine ⟨_, rfl, D, xe, rfl, SqL.of hDe, by omega, fun x hx => ?_, fun ys p perm srt hp => ?_⟩
  · obtain ⟨j, hj⟩ := List.getElem?_of_mem hx
    obtain ⟨e, he, de⟩ := dpAll_get dDe hj
    obtain ⟨t, rfl, ht⟩ := ev_dp de
    obtain ⟨e1, e2, e3⟩ := okL e (List.mem_of_getElem? he)
    refine ⟨[(e.1 : Int), (e.2.1 : Int), (e.2.2 : Int)], ⟨t, rfl, ht⟩, rfl, fun m hm => ?_⟩
    rcases List.mem_cons.mp hm with rfl | hm
    · omega
    · rcases List.mem_cons.mp hm with rfl | hm
      · omega
      · rw [List.mem_singleton.mp hm]
        omega
  obtain ⟨l', pl, dl⟩ := perm_dp perm.symm dDe
  have srt' := sorted_dp dl srt
  have ll := dpAll_len dl
  rw [List.length_map] at ll
  have ll2 : l'.length ≤ 40 := by
    rw [← pl.length_eq]
    exact lL
  have sp := same_new hp (.lst ys)
  have hs := hs.trans sp
  have dl := dpAll_same sp dl
  have hW7 := sp _ _ hW6
  have hp7 : (upd H7 p (.lst ys)) p = some (.lst ys) := upd_same
  generalize upd H7 p (.lst ys) = H8 at hs dl hW7 hp7
  refine ⟨p, rfl, ⟨_, SqL.of hp7⟩, fun U hU => lc_list (K := K) (a := p) (xs := ys) (fun i H' => Same H8 H' ∧ DL K evPy H' U (l'.take i)) ⟨same_new hU _, DL.nil⟩ (fun i H' _ hI => SqL.of (hI.1 _ _ hp7)) (fun i x H9 hx hI => ?_) (fun H9 hI => ?_)⟩
  · obtain ⟨h9, hd⟩ := hI
    obtain ⟨e, he, de⟩ := dpAll_get (dpAll_same h9 dl) hx
    obtain ⟨t, rfl, ht⟩ := ev_dp de
    obtain ⟨e1, e2, e3⟩ := okL e (pl.mem_iff.mpr (List.mem_of_getElem? he))
    refine ⟨rfl, _, rfl, t, _, 0, _, rfl, rfl, ht, rfl, _, rfl, _, rfl, t, _, 1, _, rfl, rfl, ht, rfl, wq, _, _, _, rfl, rfl, SqL.of (h9 _ _ hW7), atI_nat (word_at e2), _, rfl, t, _, 2, _, rfl, rfl, ht, rfl, (by show 3 ≤ sizeLine; decide), fun t3 h3 => ?_⟩
    have b3 := same_new h3 (.tup [.int (e.1 : Int), .str (wordN e.2.1), .int (e.2.2 : Int)])
    obtain ⟨xs, g1, g2, g3⟩ := (hd.same b3).push (a := e) noL_ev (.tup (SqT.of upd_same) (.cons (.int _) (.cons (.str _) (.cons (.int _) .nil)))) (by rw [List.length_take]; omega)
    refine ⟨xs, g1, g2, same_at hU (h9.trans b3) _, ?_⟩
    rw [take_snoc he]
    exact g3
  obtain ⟨h9, hd⟩ := hI
  rw [ll, List.take_length] at hd
  have hs := hs.trans h9
  obtain ⟨xs, hU1, hU2⟩ := hd
  refine ⟨_, rfl, _, rfl, fun x dx hx hdx ne => ?_⟩
  have sm : Same H9 (upd (upd H9 dx (.own x)) x (.ins CF dx [])) := fun b o' e => by
    rw [upd_ne (ne_of_none e hx), upd_ne (ne_of_none e hdx)]
    exact e
  have hsm := hs.trans sm
  refine ⟨x, dx, ac, v, W, o, c, rfl, upd_same, wok, hW.same hsm, cg, dp_same hsm dpc, fun tu tl te xe2 evs HF X7 hxF du dl2 hte dte pe srt2 => ⟨rfl, ?_⟩⟩
  have sF : Same H9 HF := fun b o' e => X7 b o' (ne_of_none e hx) (sm b o' e)
  have es : evs = l' := sorted_same okE pe (hlp.symm.trans pl) srt2 srt'
  subst es
  have lx := dpAll_len dte
  rw [List.length_map] at lx
  have lxs := dpAll_len hU2
  rw [List.length_map] at lxs
  have hsF := hs.trans sF
  have hUF := sF _ _ hU1
  have dUF := dpAll_same sF hU2
  clear X7 sm hsm
  have fitE : Fit 8 (.list (evs.map evPy)) := fit_evs (by omega) 5
  refine ⟨_, rfl, x, dx, te, _, xe2, rfl, hxF, lk_Fl_events, hte, fun G hG => lc_tup (K := K) (a := te) (xs := xe2) (fun i H' => Same HF H' ∧ H' G = some (.lst (xe2.take i))) ⟨same_new hG _, upd_same⟩ (fun i H' _ h => Same.tup h.1 hte) (fun i y H' hy hI => ?_) (fun HG hI => ?_)⟩
  · obtain ⟨h1, h2⟩ := hI
    have hi := (List.getElem?_eq_some_iff.mp hy).1
    refine ⟨rfl, _, rfl, _, h2, by rw [List.length_take]; exact small1000 (by omega), same_at hG h1 _, ?_⟩
    rw [upd_same, List.take_add_one, hy]
    rfl
  obtain ⟨sG, hGG⟩ := hI
  rw [List.take_length] at hGG
  refine ⟨_, rfl, _, _, .list (evs.map evPy), rfl, fitE, .lst (SqL.of hGG) (dpAll_same sG dte), .lst (SqL.of (sG _ _ hUF)) (dpAll_same sG dUF), _, rfl, iteF' rfl ?_⟩
  refine ⟨_, rfl, x, dx, te, _, xe2, rfl, sG _ _ hxF, lk_Fl_events, Same.tup sG hte, by omega, fun G2 hG2 => ?_⟩
  have sK := sG.trans (same_new hG2 (.lst xe2))
  refine ⟨_, rfl, _, _, .list (evs.map evPy), rfl, fitE, .lst (SqL.of upd_same) (dpAll_same sK dte), .lst (SqL.of (sK _ _ hUF)) (dpAll_same sK dUF), _, rfl, iteF' rfl ?_⟩
  generalize upd HG G2 (.lst xe2) = HK at sK
  refine ⟨_, rfl, x, dx, te, _, xe2, rfl, sK _ _ hxF, lk_Fl_events, Same.tup sK hte, by omega, _, rfl, U, xs, rfl, .inl (SqL.of (sK _ _ hUF)), _, _, .int (xs.length : Int), rfl, True.intro, (by rw [show xe2.length = xs.length by omega]; exact .int _), .int _, _, rfl, iteF' rfl ?_⟩
  -- a flight of what is no case
  have hsK := hsF.trans sK
  obtain ⟨t, tm, tt, xm, xt, ev, ht, hm, htt, hxm, hxt, lm, lt⟩ := case_two (dp_same hsK dpc)
  subst ev
  refine ⟨_, rfl, _, rfl, t, _, 0, _, rfl, rfl, ht, rfl, sz1_, fun p1 hp1 => ?_⟩
  have t1 := same_new hp1 (.tup [V.non])
  have hp1' : SqT K (upd HK p1 (.tup [V.non])) p1 [V.non] := SqT.of upd_same
  generalize upd HK p1 (.tup [V.non]) = HL at t1 hp1'
  refine catA_any (Same.tup t1 hm) hp1' (Nat.le_trans (show xm.length + 1 ≤ 1000 by omega) (show 1000 ≤ sizeLine by decide)) fun r HM t2 hr2 => ?_
  have t12 := t1.trans t2
  refine ⟨_, rfl, t, _, 1, _, rfl, rfl, Same.tup t12 ht, rfl, sz2_, fun p2 hp2 => fun x2 dx2 hx2 hdx2 ne2 => ?_⟩
  have t3 := t12.trans (same_new hp2 (.tup [V.ref r, V.ref tt]))
  have bad : BadMade K (upd HM p2 (.tup [V.ref r, V.ref tt])) W (.ref p2) := ⟨p2, r, tt, _, rfl, SqT.of upd_same, Same.tup (same_new hp2 _) hr2, by rw [List.length_append, List.length_singleton]; omega⟩
  generalize upd HM p2 (.tup [V.ref r, V.ref tt]) = HN at t3 bad hx2 hdx2
  have sN : Same HN (upd (upd HN dx2 (.own x2)) x2 (.ins CF dx2 [])) := fun b z e => by
    rw [upd_ne (ne_of_none e hx2), upd_ne (ne_of_none e hdx2)]
    exact e
  exact ⟨x2, ac, W, .ref p2, rfl, hW.same ((hsK.trans t3).trans sN), bad.same sN, fun H' s' => fun σ => ⟨true, TE.te, fun _ a0 _ => q _, fun z => Bool.noConfusion z⟩⟩
end
end DP
namespace DP
open PySem PySem.Spec PyProof.Rows L2
section
variable {h : Heap} {K : PySem.W.Frag} {mg : Str → Option Value} {x m qual : Str} {st : Stmt} {ps : List Str} {C f p T : Addr} {oc oc' kV doc pm cdv ct : Value} {od od' an : Option Addr} {osl osl' : Array (Option Value)} {rest : List Value}
theorem cls_mk (X : K.In h) (G : h.Ns mainGlobals mg) (g : PySem.W.nsIn K mainGlobals x = some (some (.ref C))) (pg : PySem.W.plainGet K C Str.empty = true) (hd : PySem.W.hasDictIn K C = true) (po : PySem.W.plainOver K C = true)
    (sa : PySem.W.findIn K (.ref C) "__setattr__" = some (some (.builtin "object.__setattr__"))) (mk : PySem.W.makesIn K C = true) (kp : PySem.W.keepIn K (.ref C) = true) : ClsAt K mg x C := ⟨⟨pg, hd, po, sa⟩, mk, kp, PySem.W.mg_of X G g⟩
theorem met_mk (a : PySem.W.findIn K (.ref C) m = some (some (.ref f))) (i : PySem.W.isFn K (.ref f) = true) (l : K.lookup f = some ⟨oc, od, .func (PySem.W.fnOf m qual (defArgs st) (defBody st) (defScope st) .none kV doc pm an cdv ct), osl⟩)
    (c : PySem.W.codeIn K cdv qual = true) (k : PySem.W.keepIn K (.ref f) = true)
    (hb : ∀ (kV doc pm : Value) (an : Option Addr) (cdv ct : Value) (us : List Value), us.length = ps.length → bindArgs (PySem.W.fnOf m qual (defArgs st) (defBody st) (defScope st) .none kV doc pm an cdv ct) ⟨us, []⟩ = pure (ps.zip us)) : MAt K C m qual st ps := by
  have F := fun_mk (st := st) l c k
  exact ⟨f, _, F, ⟨a, i, k⟩, F.binds hb⟩
/-- one default, an int -/
theorem metD_mk {d : Int} {t : Tok} {n : Nat} (a : PySem.W.findIn K (.ref C) m = some (some (.ref f))) (i : PySem.W.isFn K (.ref f) = true) (l : K.lookup f = some ⟨oc, od, .func (PySem.W.fnOf m qual (defArgs st) (defBody st) (defScope st) (.ref T) kV doc pm an cdv ct), osl⟩)
    (lT : K.lookup T = some ⟨oc', od', .seq #[.int d t] n, osl'⟩)
    (c : PySem.W.codeIn K cdv qual = true) (k : PySem.W.keepIn K (.ref f) = true) (j : Nat) (hn : j + 1 = ps.length)
    (hb : ∀ (T : Addr) (kV doc pm : Value) (an : Option Addr) (cdv ct : Value) (us its : List Value), us.length = j → its.length = 1 →
      ∃ k, bindArgs (PySem.W.fnOf m qual (defArgs st) (defBody st) (defScope st) (.ref T) kV doc pm an cdv ct) ⟨us, []⟩ = seqItems? (.ref T) >>= k ∧ k (some its.toArray) = pure (ps.zip (us ++ its.drop 0))) : MAtD K C m qual st ps [.int d] := by
  have F : FunD K m qual (defArgs st) (defBody st) (defScope st) [.int d] [] f (PySem.W.fnOf m qual (defArgs st) (defBody st) (defScope st) (.ref T) kV doc pm an cdv ct) :=
    ⟨⟨oc, od, .ref T, kV, doc, pm, an, cdv, ct, osl, rfl, l, c, .inr ⟨List.cons_ne_nil _ _, T, _, [.int d t], n, rfl, lT, rfl, .cons ⟨t, rfl⟩ .nil⟩, .inl rfl⟩, k⟩
  obtain ⟨ds, v, b⟩ := F.binds1 (ps := ps) j 0 (List.cons_ne_nil _ _) hn hb
  exact ⟨f, _, ds, F, ⟨a, i, k⟩, b, v⟩
theorem smet_mk (a : PySem.W.findCls K (.ref C) (.type "type") m = some (.get (.builtin "staticmethod.__get__") (.ref p) .none (.ref C))) (r : PySem.W.recIn K p "staticmethod" = some (.ref f :: rest))
    (l : K.lookup f = some ⟨oc, od, .func (PySem.W.fnOf m qual (defArgs st) (defBody st) (defScope st) .none kV doc pm an cdv ct), osl⟩)
    (c : PySem.W.codeIn K cdv qual = true) (k : PySem.W.keepIn K (.ref f) = true)
    (hb : ∀ (kV doc pm : Value) (an : Option Addr) (cdv ct : Value) (us : List Value), us.length = ps.length → bindArgs (PySem.W.fnOf m qual (defArgs st) (defBody st) (defScope st) .none kV doc pm an cdv ct) ⟨us, []⟩ = pure (ps.zip us)) : SAt K C m qual st ps := by
  have F := fun_mk (st := st) l c k
  exact ⟨f, _, F, ⟨p, rest, a, r⟩, F.binds hb⟩
theorem int_mk {i : Int} {t : Tok} (X : K.In h) (G : h.Ns mainGlobals mg) (g : PySem.W.nsIn K mainGlobals x = some (some (.int i t))) : ∃ t, mg x = some (.int i t) := ⟨t, PySem.W.mg_of X G g⟩
theorem str_mk {z : Str} {t : Tok} (X : K.In h) (G : h.Ns mainGlobals mg) (g : PySem.W.nsIn K mainGlobals x = some (some (.str z t))) : ∃ t, mg x = some (.str z t) := ⟨t, PySem.W.mg_of X G g⟩
theorem cval_mk {i : Int} {t : Tok} (g : PySem.W.findCls K (.ref C) (.type "type") x = some (.val (.int i t))) : ∃ t, ClX.CVal K C (.type "type") x (.int i) (.int i t) := ⟨t, g, ⟨t, rfl⟩⟩
theorem tup4s_mk {a b c d : Str} {t0 t1 t2 t3 : Tok} {n : Nat} (l : K.lookup T = some ⟨.type "tuple", none, .seq #[.str a t0, .str b t1, .str c t2, .str d t3] n, osl⟩) : ∀ H, SqT K H T (([a, b, c, d]).map V.str) := fun H =>
  .inr ⟨_, _, _, l, rfl, rfl, by show 4 ≤ sizeLine; exact sz4_, .cons ⟨_, rfl⟩ (.cons ⟨_, rfl⟩ (.cons ⟨_, rfl⟩ (.cons ⟨_, rfl⟩ .nil)))⟩
theorem tup4r_mk {a b c d : Addr} {n : Nat} (l : K.lookup T = some ⟨.type "tuple", none, .seq #[.ref a, .ref b, .ref c, .ref d] n, osl⟩) : ∀ H, SqT K H T [.ref a, .ref b, .ref c, .ref d] := fun H =>
  .inr ⟨_, _, _, l, rfl, rfl, by show 4 ≤ sizeLine; exact sz4_, .cons rfl (.cons rfl (.cons rfl (.cons rfl .nil)))⟩
theorem tupk_mk {its : Array Value} {n : Nat} (l : K.lookup T = some ⟨.type "tuple", none, .seq its n, osl⟩) : ∃ o, K.lookup T = some o ∧ o.cls = .type "tuple" ∧ o.dict = none := ⟨_, l, rfl, rfl⟩
end
end DP
namespace DP
open PySem PySem.Spec PyProof.Rows L2
structure PF (K : PySem.W.Frag) (mg : Str → Option Value) (CL CS CT CR CP CW : Addr) : Prop where
  p_names_of : At K mg "names_of" s_names_of ["things"]
  p_read_light : At K mg "read_light" s_read_light ["line", "horizon"]
  p_read_satellite : At K mg "read_satellite" s_read_satellite ["line", "horizon", "things"]
  p_read_station : At K mg "read_station" s_read_station ["line", "_", "things"]
  p_read_recording : At K mg "read_recording" s_read_recording ["line", "horizon", "things"]
  p_read_pass : At K mg "read_pass" s_read_pass ["line", "horizon", "things"]
  p_most_things : At K mg "most_things" s_most_things ["sort"]
  p_read_sort : At K mg "read_sort" s_read_sort ["line", "ahead", "things"]
  p_read_things : At K mg "read_things" s_read_things ["lines", "horizon"]
  p_lines_of : At K mg "lines_of" s_lines_of ["text"]
  p_is_name : At K mg "is_name" s_is_name ["word"]
  p_is_number : At K mg "is_number" s_is_number ["word"]
  p_Line___init__ : MAt K CL "__init__" "Line.__init__" s_Line___init__ ["self", "number", "row"]
  p_Line_has_more : MAt K CL "has_more" "Line.has_more" s_Line_has_more ["self"]
  p_Line_due : MAt K CL "due" "Line.due" s_Line_due ["self"]
  p_Line_step : MAt K CL "step" "Line.step" s_Line_step ["self"]
  p_Line_read_choice : MAt K CL "read_choice" "Line.read_choice" s_Line_read_choice ["self", "choices"]
  p_Line_read_number : MAt K CL "read_number" "Line.read_number" s_Line_read_number ["self", "least", "most"]
  p_Line_read_field : MAt K CL "read_field" "Line.read_field" s_Line_read_field ["self", "word", "least", "most"]
  p_Line_due_name : MAt K CL "due_name" "Line.due_name" s_Line_due_name ["self"]
  p_Line_read_new_name : MAt K CL "read_new_name" "Line.read_new_name" s_Line_read_new_name ["self", "used"]
  p_Line_read_known_name : MAtD K CL "read_known_name" "Line.read_known_name" s_Line_read_known_name ["self", "names", "least"] [.int 0]
  p_Line_finish : MAt K CL "finish" "Line.finish" s_Line_finish ["self"]
  p_Satellite___init__ : MAt K CS "__init__" "Satellite.__init__" s_Satellite___init__ ["self", "name", "store", "battery", "start_level", "reserve", "charge", "settle", "light"]
  p_Station___init__ : MAt K CT "__init__" "Station.__init__" s_Station___init__ ["self", "name", "antennas", "turn"]
  p_Recording___init__ : MAt K CR "__init__" "Recording.__init__" s_Recording___init__ ["self", "name", "satellite", "earliest", "latest", "length", "size", "energy", "worth", "rank", "deadline"]
  p_Pass___init__ : MAt K CP "__init__" "Pass.__init__" s_Pass___init__ ["self", "name", "satellite", "station", "span", "room", "energy", "fee"]
  p_World___init__ : MAt K CW "__init__" "World.__init__" s_World___init__ ["self", "text", "horizon", "things"]
  p_World_parse : SAt K CW "parse" "World.parse" s_World_parse ["text"]
theorem hb_names_of : ∀ (kV doc pm : Value) (an : Option Addr) (cdv ct : Value) (us : List Value), us.length = (["things"] : List Str).length → bindArgs (PySem.W.fnOf "names_of" "names_of" (defArgs s_names_of) (defBody s_names_of) (defScope s_names_of) .none kV doc pm an cdv ct) ⟨us, []⟩ = pure ((["things"] : List Str).zip us) :=
  fun _ _ _ _ _ _ us hl => match us, hl with | [_], _ => rfl
theorem hb_read_light : ∀ (kV doc pm : Value) (an : Option Addr) (cdv ct : Value) (us : List Value), us.length = (["line", "horizon"] : List Str).length → bindArgs (PySem.W.fnOf "read_light" "read_light" (defArgs s_read_light) (defBody s_read_light) (defScope s_read_light) .none kV doc pm an cdv ct) ⟨us, []⟩ = pure ((["line", "horizon"] : List Str).zip us) :=
  fun _ _ _ _ _ _ us hl => match us, hl with | [_, _], _ => rfl
theorem hb_read_satellite : ∀ (kV doc pm : Value) (an : Option Addr) (cdv ct : Value) (us : List Value), us.length = (["line", "horizon", "things"] : List Str).length → bindArgs (PySem.W.fnOf "read_satellite" "read_satellite" (defArgs s_read_satellite) (defBody s_read_satellite) (defScope s_read_satellite) .none kV doc pm an cdv ct) ⟨us, []⟩ = pure ((["line", "horizon", "things"] : List Str).zip us) :=
  fun _ _ _ _ _ _ us hl => match us, hl with | [_, _, _], _ => rfl
theorem hb_read_station : ∀ (kV doc pm : Value) (an : Option Addr) (cdv ct : Value) (us : List Value), us.length = (["line", "_", "things"] : List Str).length → bindArgs (PySem.W.fnOf "read_station" "read_station" (defArgs s_read_station) (defBody s_read_station) (defScope s_read_station) .none kV doc pm an cdv ct) ⟨us, []⟩ = pure ((["line", "_", "things"] : List Str).zip us) :=
  fun _ _ _ _ _ _ us hl => match us, hl with | [_, _, _], _ => rfl
theorem hb_read_recording : ∀ (kV doc pm : Value) (an : Option Addr) (cdv ct : Value) (us : List Value), us.length = (["line", "horizon", "things"] : List Str).length → bindArgs (PySem.W.fnOf "read_recording" "read_recording" (defArgs s_read_recording) (defBody s_read_recording) (defScope s_read_recording) .none kV doc pm an cdv ct) ⟨us, []⟩ = pure ((["line", "horizon", "things"] : List Str).zip us) :=
  fun _ _ _ _ _ _ us hl => match us, hl with | [_, _, _], _ => rfl
theorem hb_read_pass : ∀ (kV doc pm : Value) (an : Option Addr) (cdv ct : Value) (us : List Value), us.length = (["line", "horizon", "things"] : List Str).length → bindArgs (PySem.W.fnOf "read_pass" "read_pass" (defArgs s_read_pass) (defBody s_read_pass) (defScope s_read_pass) .none kV doc pm an cdv ct) ⟨us, []⟩ = pure ((["line", "horizon", "things"] : List Str).zip us) :=
  fun _ _ _ _ _ _ us hl => match us, hl with | [_, _, _], _ => rfl
theorem hb_most_things : ∀ (kV doc pm : Value) (an : Option Addr) (cdv ct : Value) (us : List Value), us.length = (["sort"] : List Str).length → bindArgs (PySem.W.fnOf "most_things" "most_things" (defArgs s_most_things) (defBody s_most_things) (defScope s_most_things) .none kV doc pm an cdv ct) ⟨us, []⟩ = pure ((["sort"] : List Str).zip us) :=
  fun _ _ _ _ _ _ us hl => match us, hl with | [_], _ => rfl
theorem hb_read_sort : ∀ (kV doc pm : Value) (an : Option Addr) (cdv ct : Value) (us : List Value), us.length = (["line", "ahead", "things"] : List Str).length → bindArgs (PySem.W.fnOf "read_sort" "read_sort" (defArgs s_read_sort) (defBody s_read_sort) (defScope s_read_sort) .none kV doc pm an cdv ct) ⟨us, []⟩ = pure ((["line", "ahead", "things"] : List Str).zip us) :=
  fun _ _ _ _ _ _ us hl => match us, hl with | [_, _, _], _ => rfl
theorem hb_read_things : ∀ (kV doc pm : Value) (an : Option Addr) (cdv ct : Value) (us : List Value), us.length = (["lines", "horizon"] : List Str).length → bindArgs (PySem.W.fnOf "read_things" "read_things" (defArgs s_read_things) (defBody s_read_things) (defScope s_read_things) .none kV doc pm an cdv ct) ⟨us, []⟩ = pure ((["lines", "horizon"] : List Str).zip us) :=
  fun _ _ _ _ _ _ us hl => match us, hl with | [_, _], _ => rfl
theorem hb_lines_of : ∀ (kV doc pm : Value) (an : Option Addr) (cdv ct : Value) (us : List Value), us.length = (["text"] : List Str).length → bindArgs (PySem.W.fnOf "lines_of" "lines_of" (defArgs s_lines_of) (defBody s_lines_of) (defScope s_lines_of) .none kV doc pm an cdv ct) ⟨us, []⟩ = pure ((["text"] : List Str).zip us) :=
  fun _ _ _ _ _ _ us hl => match us, hl with | [_], _ => rfl
theorem hb_is_name : ∀ (kV doc pm : Value) (an : Option Addr) (cdv ct : Value) (us : List Value), us.length = (["word"] : List Str).length → bindArgs (PySem.W.fnOf "is_name" "is_name" (defArgs s_is_name) (defBody s_is_name) (defScope s_is_name) .none kV doc pm an cdv ct) ⟨us, []⟩ = pure ((["word"] : List Str).zip us) :=
  fun _ _ _ _ _ _ us hl => match us, hl with | [_], _ => rfl
theorem hb_is_number : ∀ (kV doc pm : Value) (an : Option Addr) (cdv ct : Value) (us : List Value), us.length = (["word"] : List Str).length → bindArgs (PySem.W.fnOf "is_number" "is_number" (defArgs s_is_number) (defBody s_is_number) (defScope s_is_number) .none kV doc pm an cdv ct) ⟨us, []⟩ = pure ((["word"] : List Str).zip us) :=
  fun _ _ _ _ _ _ us hl => match us, hl with | [_], _ => rfl
theorem hb_Line___init__ : ∀ (kV doc pm : Value) (an : Option Addr) (cdv ct : Value) (us : List Value), us.length = (["self", "number", "row"] : List Str).length → bindArgs (PySem.W.fnOf "__init__" "Line.__init__" (defArgs s_Line___init__) (defBody s_Line___init__) (defScope s_Line___init__) .none kV doc pm an cdv ct) ⟨us, []⟩ = pure ((["self", "number", "row"] : List Str).zip us) :=
  fun _ _ _ _ _ _ us hl => match us, hl with | [_, _, _], _ => rfl
theorem hb_Line_has_more : ∀ (kV doc pm : Value) (an : Option Addr) (cdv ct : Value) (us : List Value), us.length = (["self"] : List Str).length → bindArgs (PySem.W.fnOf "has_more" "Line.has_more" (defArgs s_Line_has_more) (defBody s_Line_has_more) (defScope s_Line_has_more) .none kV doc pm an cdv ct) ⟨us, []⟩ = pure ((["self"] : List Str).zip us) :=
  fun _ _ _ _ _ _ us hl => match us, hl with | [_], _ => rfl
theorem hb_Line_due : ∀ (kV doc pm : Value) (an : Option Addr) (cdv ct : Value) (us : List Value), us.length = (["self"] : List Str).length → bindArgs (PySem.W.fnOf "due" "Line.due" (defArgs s_Line_due) (defBody s_Line_due) (defScope s_Line_due) .none kV doc pm an cdv ct) ⟨us, []⟩ = pure ((["self"] : List Str).zip us) :=
  fun _ _ _ _ _ _ us hl => match us, hl with | [_], _ => rfl
theorem hb_Line_step : ∀ (kV doc pm : Value) (an : Option Addr) (cdv ct : Value) (us : List Value), us.length = (["self"] : List Str).length → bindArgs (PySem.W.fnOf "step" "Line.step" (defArgs s_Line_step) (defBody s_Line_step) (defScope s_Line_step) .none kV doc pm an cdv ct) ⟨us, []⟩ = pure ((["self"] : List Str).zip us) :=
  fun _ _ _ _ _ _ us hl => match us, hl with | [_], _ => rfl
theorem hb_Line_read_choice : ∀ (kV doc pm : Value) (an : Option Addr) (cdv ct : Value) (us : List Value), us.length = (["self", "choices"] : List Str).length → bindArgs (PySem.W.fnOf "read_choice" "Line.read_choice" (defArgs s_Line_read_choice) (defBody s_Line_read_choice) (defScope s_Line_read_choice) .none kV doc pm an cdv ct) ⟨us, []⟩ = pure ((["self", "choices"] : List Str).zip us) :=
  fun _ _ _ _ _ _ us hl => match us, hl with | [_, _], _ => rfl
theorem hb_Line_read_number : ∀ (kV doc pm : Value) (an : Option Addr) (cdv ct : Value) (us : List Value), us.length = (["self", "least", "most"] : List Str).length → bindArgs (PySem.W.fnOf "read_number" "Line.read_number" (defArgs s_Line_read_number) (defBody s_Line_read_number) (defScope s_Line_read_number) .none kV doc pm an cdv ct) ⟨us, []⟩ = pure ((["self", "least", "most"] : List Str).zip us) :=
  fun _ _ _ _ _ _ us hl => match us, hl with | [_, _, _], _ => rfl
theorem hb_Line_read_field : ∀ (kV doc pm : Value) (an : Option Addr) (cdv ct : Value) (us : List Value), us.length = (["self", "word", "least", "most"] : List Str).length → bindArgs (PySem.W.fnOf "read_field" "Line.read_field" (defArgs s_Line_read_field) (defBody s_Line_read_field) (defScope s_Line_read_field) .none kV doc pm an cdv ct) ⟨us, []⟩ = pure ((["self", "word", "least", "most"] : List Str).zip us) :=
  fun _ _ _ _ _ _ us hl => match us, hl with | [_, _, _, _], _ => rfl
theorem hb_Line_due_name : ∀ (kV doc pm : Value) (an : Option Addr) (cdv ct : Value) (us : List Value), us.length = (["self"] : List Str).length → bindArgs (PySem.W.fnOf "due_name" "Line.due_name" (defArgs s_Line_due_name) (defBody s_Line_due_name) (defScope s_Line_due_name) .none kV doc pm an cdv ct) ⟨us, []⟩ = pure ((["self"] : List Str).zip us) :=
  fun _ _ _ _ _ _ us hl => match us, hl with | [_], _ => rfl
theorem hb_Line_read_new_name : ∀ (kV doc pm : Value) (an : Option Addr) (cdv ct : Value) (us : List Value), us.length = (["self", "used"] : List Str).length → bindArgs (PySem.W.fnOf "read_new_name" "Line.read_new_name" (defArgs s_Line_read_new_name) (defBody s_Line_read_new_name) (defScope s_Line_read_new_name) .none kV doc pm an cdv ct) ⟨us, []⟩ = pure ((["self", "used"] : List Str).zip us) :=
  fun _ _ _ _ _ _ us hl => match us, hl with | [_, _], _ => rfl
theorem hb_Line_read_known_name : ∀ (T : Addr) (kV doc pm : Value) (an : Option Addr) (cdv ct : Value) (us its : List Value), us.length = 2 → its.length = 1 →
    ∃ k, bindArgs (PySem.W.fnOf "read_known_name" "Line.read_known_name" (defArgs s_Line_read_known_name) (defBody s_Line_read_known_name) (defScope s_Line_read_known_name) (.ref T) kV doc pm an cdv ct) ⟨us, []⟩ = seqItems? (.ref T) >>= k ∧ k (some its.toArray) = pure ((["self", "names", "least"] : List Str).zip (us ++ its.drop 0)) :=
  fun _ _ _ _ _ _ _ us its h1 h2 => match us, its, h1, h2 with | [_, _], [_], _, _ => ⟨_, rfl, rfl⟩
theorem hb_Line_finish : ∀ (kV doc pm : Value) (an : Option Addr) (cdv ct : Value) (us : List Value), us.length = (["self"] : List Str).length → bindArgs (PySem.W.fnOf "finish" "Line.finish" (defArgs s_Line_finish) (defBody s_Line_finish) (defScope s_Line_finish) .none kV doc pm an cdv ct) ⟨us, []⟩ = pure ((["self"] : List Str).zip us) :=
  fun _ _ _ _ _ _ us hl => match us, hl with | [_], _ => rfl
theorem hb_Satellite___init__ : ∀ (kV doc pm : Value) (an : Option Addr) (cdv ct : Value) (us : List Value), us.length = (["self", "name", "store", "battery", "start_level", "reserve", "charge", "settle", "light"] : List Str).length → bindArgs (PySem.W.fnOf "__init__" "Satellite.__init__" (defArgs s_Satellite___init__) (defBody s_Satellite___init__) (defScope s_Satellite___init__) .none kV doc pm an cdv ct) ⟨us, []⟩ = pure ((["self", "name", "store", "battery", "start_level", "reserve", "charge", "settle", "light"] : List Str).zip us) :=
  fun _ _ _ _ _ _ us hl => match us, hl with | [_, _, _, _, _, _, _, _, _], _ => rfl
theorem hb_Station___init__ : ∀ (kV doc pm : Value) (an : Option Addr) (cdv ct : Value) (us : List Value), us.length = (["self", "name", "antennas", "turn"] : List Str).length → bindArgs (PySem.W.fnOf "__init__" "Station.__init__" (defArgs s_Station___init__) (defBody s_Station___init__) (defScope s_Station___init__) .none kV doc pm an cdv ct) ⟨us, []⟩ = pure ((["self", "name", "antennas", "turn"] : List Str).zip us) :=
  fun _ _ _ _ _ _ us hl => match us, hl with | [_, _, _, _], _ => rfl
theorem hb_Recording___init__ : ∀ (kV doc pm : Value) (an : Option Addr) (cdv ct : Value) (us : List Value), us.length = (["self", "name", "satellite", "earliest", "latest", "length", "size", "energy", "worth", "rank", "deadline"] : List Str).length → bindArgs (PySem.W.fnOf "__init__" "Recording.__init__" (defArgs s_Recording___init__) (defBody s_Recording___init__) (defScope s_Recording___init__) .none kV doc pm an cdv ct) ⟨us, []⟩ = pure ((["self", "name", "satellite", "earliest", "latest", "length", "size", "energy", "worth", "rank", "deadline"] : List Str).zip us) :=
  fun _ _ _ _ _ _ us hl => match us, hl with | [_, _, _, _, _, _, _, _, _, _, _], _ => rfl
theorem hb_Pass___init__ : ∀ (kV doc pm : Value) (an : Option Addr) (cdv ct : Value) (us : List Value), us.length = (["self", "name", "satellite", "station", "span", "room", "energy", "fee"] : List Str).length → bindArgs (PySem.W.fnOf "__init__" "Pass.__init__" (defArgs s_Pass___init__) (defBody s_Pass___init__) (defScope s_Pass___init__) .none kV doc pm an cdv ct) ⟨us, []⟩ = pure ((["self", "name", "satellite", "station", "span", "room", "energy", "fee"] : List Str).zip us) :=
  fun _ _ _ _ _ _ us hl => match us, hl with | [_, _, _, _, _, _, _, _], _ => rfl
theorem hb_World___init__ : ∀ (kV doc pm : Value) (an : Option Addr) (cdv ct : Value) (us : List Value), us.length = (["self", "text", "horizon", "things"] : List Str).length → bindArgs (PySem.W.fnOf "__init__" "World.__init__" (defArgs s_World___init__) (defBody s_World___init__) (defScope s_World___init__) .none kV doc pm an cdv ct) ⟨us, []⟩ = pure ((["self", "text", "horizon", "things"] : List Str).zip us) :=
  fun _ _ _ _ _ _ us hl => match us, hl with | [_, _, _, _], _ => rfl
theorem hb_World_parse : ∀ (kV doc pm : Value) (an : Option Addr) (cdv ct : Value) (us : List Value), us.length = (["text"] : List Str).length → bindArgs (PySem.W.fnOf "parse" "World.parse" (defArgs s_World_parse) (defBody s_World_parse) (defScope s_World_parse) .none kV doc pm an cdv ct) ⟨us, []⟩ = pure ((["text"] : List Str).zip us) :=
  fun _ _ _ _ _ _ us hl => match us, hl with | [_], _ => rfl
section
variable {P : Program} {w : World} {K : PySem.W.Frag} {mg : Str → Option Value} {base : Heap} {CL CS CT CR CP CW aS aR fS fT fR fP : Addr}
theorem prog_parse (T : TxtW K mg CL CS CT CR CP CW aS aR fS fT fR fP) (F : PF K mg CL CS CT CR CP CW) : SDef P w K mg base CX0 7 CW "parse" ["text"] (spParse K CS CT CR CP CW) := by
  have L := T.L
  have B := L.B
  have D_init : MDef P w K mg base CX0 1 CL "__init__" _ [] _ := d_Line_init L F.p_Line___init__
  have D_has_more : MDef P w K mg base CX0 1 CL "has_more" _ [] _ := d_has_more L F.p_Line_has_more
  have D_due : MDef P w K mg base CX0 2 CL "due" _ [] _ := d_due L D_has_more F.p_Line_due
  have D_step : MDef P w K mg base CX0 1 CL "step" _ [] _ := d_step L F.p_Line_step
  have D_choice : MDef P w K mg base CX0 3 CL "read_choice" _ [] _ := d_read_choice L D_due D_step F.p_Line_read_choice
  have D_isnum : DefOk P w K mg base CX0 1 "is_number" _ _ := d_is_number L F.p_is_number
  have D_number : MDef P w K mg base CX0 3 CL "read_number" _ [] _ := d_read_number L D_isnum D_due D_step F.p_Line_read_number
  have D_field : MDef P w K mg base CX0 4 CL "read_field" _ [] _ := d_read_field L D_choice D_number F.p_Line_read_field
  have D_isname : DefOk P w K mg base CX0 1 "is_name" _ _ := d_is_name L F.p_is_name
  have D_due_name : MDef P w K mg base CX0 3 CL "due_name" _ [] _ := d_due_name L D_isname D_due F.p_Line_due_name
  have D_new : MDef P w K mg base CX0 4 CL "read_new_name" _ [] _ := d_read_new_name L D_due_name D_step F.p_Line_read_new_name
  have D_known : MDef P w K mg base CX0 4 CL "read_known_name" _ _ _ := d_read_known_name L D_due_name D_step F.p_Line_read_known_name
  have D_finish : MDef P w K mg base CX0 3 CL "finish" _ [] _ := d_finish L D_has_more F.p_Line_finish
  have D_lines : DefOk P w K mg base CX0 3 "lines_of" _ _ := d_lines_of L D_init F.p_lines_of
  have D_names : DefOk P w K mg base CX0 1 "names_of" _ _ := d_names_of B F.p_names_of
  have D_light : DefOk P w K mg base CX0 4 "read_light" _ _ := d_read_light T D_has_more D_number F.p_read_light
  have D1 : DefOk P w K mg base CX0 5 "read_satellite" _ _ := d_read_satellite T D_names D_new D_field D_choice D_light (dI_Satellite T F.p_Satellite___init__) F.p_read_satellite
  have D2 : DefOk P w K mg base CX0 5 "read_station" _ _ := d_read_station T D_names D_new D_field (dI_Station T F.p_Station___init__) F.p_read_station
  have D3 : DefOk P w K mg base CX0 5 "read_recording" _ _ := d_read_recording T D_names D_new D_field D_choice D_known (dI_Recording T F.p_Recording___init__) F.p_read_recording
  have D4 : DefOk P w K mg base CX0 5 "read_pass" _ _ := d_read_pass T D_names D_new D_field D_choice D_known (dI_Pass T F.p_Pass___init__) F.p_read_pass
  have D_most : DefOk P w K mg base CX0 1 "most_things" _ _ := d_most_things T F.p_most_things
  have D_sort : DefOk P w K mg base CX0 3 "read_sort" _ _ := d_read_sort T D_due D_step D_most F.p_read_sort
  have D_things : DefOk P w K mg base CX0 6 "read_things" _ _ := d_read_things T D_sort D1 D2 D3 D4
    (at_ne F.p_read_station F.p_read_satellite T.r_station T.r_satellite (by decide)) (at_ne F.p_read_recording F.p_read_satellite T.r_recording T.r_satellite (by decide)) (at_ne F.p_read_recording F.p_read_station T.r_recording T.r_station (by decide))
    (at_ne F.p_read_pass F.p_read_satellite T.r_pass T.r_satellite (by decide)) (at_ne F.p_read_pass F.p_read_station T.r_pass T.r_station (by decide)) (at_ne F.p_read_pass F.p_read_recording T.r_pass T.r_recording (by decide)) D_finish F.p_read_things
  exact d_parse T D_lines D_field D_finish D_things (dI_World T F.p_World___init__) F.p_World_parse
end
end DP
namespace DP
open PySem PySem.Spec PyProof.Rows L2
section
variable {P : Program} {w : World} {K : PySem.W.Frag} {mg : Str → Option Value} {base : Heap}
structure LawF (K : PySem.W.Frag) (mg : Str → Option Value) : Prop where
  (a1 : At K mg "_law_cell" s__law_cell ["script", "k"]) (a2 : At K mg "_law_draws" s__law_draws ["cell", "count"]) (a3 : At K mg "_law_stream" s__law_stream ["script", "first", "count"]) (a4 : At K mg "_law_next" s__law_next ["stream", "many"]) (a5 : At K mg "_law_word" s__law_word ["stream", "index"]) (a6 : At K mg "_law_satellite" s__law_satellite ["stream", "index", "horizon"]) (a7 : At K mg "_law_recording" s__law_recording ["stream", "index", "satellites", "horizon"]) (a8 : At K mg "_law_pass" s__law_pass ["stream", "index", "satellites", "stations", "horizon"]) (a9 : At K mg "_law_world" s__law_world ["script"]) (b1 : At K mg "_law_lines" s__law_lines ["world"]) (b2 : At K mg "_law_text" s__law_text ["world"]) (b4 : At K mg "_law_is_integer" s__law_is_integer ["actual"]) (b5 : At K mg "_law_same" s__law_same ["actual", "expected"])
theorem LawF.stream (B : Bt mg) (L : LawF K mg) : DefOk P w K mg base CX0 2 "_law_stream" ["script", "first", "count"] (spStream K) := d_stream (d_stream0 B (d_cell B L.a1) (d_draws B L.a2) L.a3)
theorem LawF.next (B : Bt mg) (L : LawF K mg) : DefOk P w K mg base CX0 1 "_law_next" ["stream", "many"] spNext := d_next (d_next0 B L.a4)
theorem LawF.word (B : Bt mg) (L : LawF K mg) : DefOk P w K mg base CX0 2 "_law_word" ["stream", "index"] spWord := d_word B (L.next B) L.a5
theorem LawF.world (B : Bt mg) (L : LawF K mg) : DefOk P w K mg base CX0 4 "_law_world" ["script"] (spWorld K) :=
  d_world B (L.stream B) (L.next B) (L.word B) (d_gsat B (L.next B) (L.word B) L.a6) (d_grec B (L.next B) (L.word B) L.a7) (d_gpas B (L.next B) (L.word B) L.a8) L.a9
theorem LawF.text (B : Bt mg) (L : LawF K mg) : DefOk P w K mg base CX0 2 "_law_text" ["world"] (spLawText K) := d_law_text B (d_law_lines B L.b1) L.b2
theorem LawF.same (B : Bt mg) (L : LawF K mg) : DefOk P w K mg base CX0 9 "_law_same" ["actual", "expected"] (spSame K 8) := d_same B (d_is_integer B L.b4) L.b5 8
end
end DP
namespace DP
open PySem PySem.Spec PyProof.Rows L2
theorem the_law {P : Program} {w : World} {K : PySem.W.Frag} {mg : Str → Option Value} {base : Heap} {CL CS CT CR CP CW aS aR fS fT fR fP CF aWd CB : Addr} (T : TxtW K mg CL CS CT CR CP CW aS aR fS fT fR fP) (F : PF K mg CL CS CT CR CP CW)
    (a1 : At K mg "_law_cell" s__law_cell ["script", "k"]) (a2 : At K mg "_law_draws" s__law_draws ["cell", "count"]) (a3 : At K mg "_law_stream" s__law_stream ["script", "first", "count"]) (a4 : At K mg "_law_next" s__law_next ["stream", "many"]) (a5 : At K mg "_law_word" s__law_word ["stream", "index"]) (a6 : At K mg "_law_satellite" s__law_satellite ["stream", "index", "horizon"]) (a7 : At K mg "_law_recording" s__law_recording ["stream", "index", "satellites", "horizon"]) (a8 : At K mg "_law_pass" s__law_pass ["stream", "index", "satellites", "stations", "horizon"]) (a9 : At K mg "_law_world" s__law_world ["script"]) (b1 : At K mg "_law_lines" s__law_lines ["world"]) (b2 : At K mg "_law_text" s__law_text ["world"]) (b4 : At K mg "_law_is_integer" s__law_is_integer ["actual"]) (b5 : At K mg "_law_same" s__law_same ["actual", "expected"]) (f1 : At K mg "is_option" s_is_option ["world", "number", "pair"]) (f2 : At K mg "has_antenna" s_has_antenna ["world", "p", "antenna"]) (f3 : At K mg "is_filled" s_is_filled ["entry"]) (f4 : At K mg "made_recordings" s_made_recordings ["world", "case"]) (f5 : At K mg "taken_passes" s_taken_passes ["world", "case"]) (f6 : At K mg "busy_things" s_busy_things ["world", "case", "number"]) (f7 : At K mg "energy_of" s_energy_of ["world", "thing"]) (f8 : At K mg "spending" s_spending ["world", "case", "number"]) (f9 : At K mg "charges" s_charges ["world", "number"]) (g0 : At K mg "battery_levels" s_battery_levels ["world", "case", "number"]) (l1 : At K mg "_law_options" s__law_options ["world", "number"]) (l2 : At K mg "_law_case" s__law_case ["script", "first", "world", "open_too"]) (l4 : At K mg "_law_made" s__law_made ["world", "case", "s"]) (l5 : At K mg "_law_has_antenna" s__law_has_antenna ["world", "case", "p"]) (l6 : At K mg "_law_taken" s__law_taken ["world", "case", "s"]) (h1 : At K mg "store_used" s_store_used ["world", "case", "number"]) (h2 : At K mg "events_of" s_events_of ["world", "case"]) (h3 : At K mg "is_tuple_of" s_is_tuple_of ["thing", "many"]) (h4 : At K mg "is_made_entry" s_is_made_entry ["world", "entry"]) (h5 : At K mg "is_taken_entry" s_is_taken_entry ["entry"]) (h6 : At K mg "check_case" s_check_case ["world", "case"]) (h7 : MAt K CF "__init__" "Flight.__init__" s_Flight___init__ ["self", "world", "case"])
    (h8 : MAt K CF "__iter__" "Flight.__iter__" s_Flight___iter__ ["self"]) (h9 : MAt K CF "__len__" "Flight.__len__" s_Flight___len__ ["self"]) (z1 : At K mg "law" s_law ["script"]) (TO : TxtO mg) (TF : TxtFl K mg CF) (TEv : TxtF K mg aWd) (TE : TxtE K mg CB) (BI : mg "iter" = none) : DefOk P w K mg base CX0 10 "law" ["script"] (spLaw K) := by
  have B := T.L.B
  have L : LawF K mg := ⟨a1, a2, a3, a4, a5, a6, a7, a8, a9, b1, b2, b4, b5⟩
  have D_cell : DefOk P w K mg base CX0 1 "_law_cell" _ _ := d_cell B a1
  have D_filled : DefOk P w K mg base CX0 1 "is_filled" _ _ := d_is_filled B TO f3
  have D_made : DefOk P w K mg base CX0 2 "made_recordings" _ _ := d_made T D_filled (d_is_option T f1) f4
  have D_taken : DefOk P w K mg base CX0 2 "taken_passes" _ _ := d_taken T D_filled (d_has_antenna T f2) f5
  have D_busy : DefOk P w K mg base CX0 3 "busy_things" _ _ := d_busy T D_made D_taken f6
  have D_spending : DefOk P w K mg base CX0 4 "spending" _ _ := d_spending T D_busy (d_energy_of T f7) f8
  have D_levels : DefOk P w K mg base CX0 5 "battery_levels" _ _ := d_levels T D_spending (d_charges T f9) g0
  have D_used : DefOk P w K mg base CX0 3 "store_used" _ _ := d_used T D_made h1
  have D_events : DefOk P w K mg base CX0 3 "events_of" _ _ := d_events T TEv D_made D_taken h2
  have D_tup : DefOk P w K mg base CX0 1 "is_tuple_of" _ _ := d_is_tuple_of B h3
  have D_check : DefOk P w K mg base CX0 3 "check_case" _ _ := d_check_case T D_tup (d_is_made_entry T TO D_tup h4) (d_is_taken_entry B TO h5) h6
  have D_lopt : DefOk P w K mg base CX0 1 "_law_options" _ _ := d_law_options B l1
  exact d_law T TF TE TEv.b_sorted D_cell (L.world B) (L.text B) (d_case B (L.stream B) (L.next B) D_lopt l2) (L.same B) (d_lmade B D_lopt l4) (d_ltaken B (d_lant B l5) l6) (dI_Flight T TF D_check D_used D_levels D_events h7) (dI_FlightX (d_check_caseB T TE D_tup h6) h7) (d_fl_iter TF BI h8) (d_fl_len B TF h9) (prog_parse T F) z1
theorem hb__law_cell : ∀ (kV doc pm : Value) (an : Option Addr) (cdv ct : Value) (us : List Value), us.length = (["script", "k"] : List Str).length → bindArgs (PySem.W.fnOf "_law_cell" "_law_cell" (defArgs s__law_cell) (defBody s__law_cell) (defScope s__law_cell) .none kV doc pm an cdv ct) ⟨us, []⟩ = pure ((["script", "k"] : List Str).zip us) :=
  fun _ _ _ _ _ _ us hl => match us, hl with | [_, _], _ => rfl
theorem hb__law_draws : ∀ (kV doc pm : Value) (an : Option Addr) (cdv ct : Value) (us : List Value), us.length = (["cell", "count"] : List Str).length → bindArgs (PySem.W.fnOf "_law_draws" "_law_draws" (defArgs s__law_draws) (defBody s__law_draws) (defScope s__law_draws) .none kV doc pm an cdv ct) ⟨us, []⟩ = pure ((["cell", "count"] : List Str).zip us) :=
  fun _ _ _ _ _ _ us hl => match us, hl with | [_, _], _ => rfl
theorem hb__law_stream : ∀ (kV doc pm : Value) (an : Option Addr) (cdv ct : Value) (us : List Value), us.length = (["script", "first", "count"] : List Str).length → bindArgs (PySem.W.fnOf "_law_stream" "_law_stream" (defArgs s__law_stream) (defBody s__law_stream) (defScope s__law_stream) .none kV doc pm an cdv ct) ⟨us, []⟩ = pure ((["script", "first", "count"] : List Str).zip us) :=
  fun _ _ _ _ _ _ us hl => match us, hl with | [_, _, _], _ => rfl
theorem hb__law_next : ∀ (kV doc pm : Value) (an : Option Addr) (cdv ct : Value) (us : List Value), us.length = (["stream", "many"] : List Str).length → bindArgs (PySem.W.fnOf "_law_next" "_law_next" (defArgs s__law_next) (defBody s__law_next) (defScope s__law_next) .none kV doc pm an cdv ct) ⟨us, []⟩ = pure ((["stream", "many"] : List Str).zip us) :=
  fun _ _ _ _ _ _ us hl => match us, hl with | [_, _], _ => rfl
theorem hb__law_word : ∀ (kV doc pm : Value) (an : Option Addr) (cdv ct : Value) (us : List Value), us.length = (["stream", "index"] : List Str).length → bindArgs (PySem.W.fnOf "_law_word" "_law_word" (defArgs s__law_word) (defBody s__law_word) (defScope s__law_word) .none kV doc pm an cdv ct) ⟨us, []⟩ = pure ((["stream", "index"] : List Str).zip us) :=
  fun _ _ _ _ _ _ us hl => match us, hl with | [_, _], _ => rfl
theorem hb__law_satellite : ∀ (kV doc pm : Value) (an : Option Addr) (cdv ct : Value) (us : List Value), us.length = (["stream", "index", "horizon"] : List Str).length → bindArgs (PySem.W.fnOf "_law_satellite" "_law_satellite" (defArgs s__law_satellite) (defBody s__law_satellite) (defScope s__law_satellite) .none kV doc pm an cdv ct) ⟨us, []⟩ = pure ((["stream", "index", "horizon"] : List Str).zip us) :=
  fun _ _ _ _ _ _ us hl => match us, hl with | [_, _, _], _ => rfl
theorem hb__law_recording : ∀ (kV doc pm : Value) (an : Option Addr) (cdv ct : Value) (us : List Value), us.length = (["stream", "index", "satellites", "horizon"] : List Str).length → bindArgs (PySem.W.fnOf "_law_recording" "_law_recording" (defArgs s__law_recording) (defBody s__law_recording) (defScope s__law_recording) .none kV doc pm an cdv ct) ⟨us, []⟩ = pure ((["stream", "index", "satellites", "horizon"] : List Str).zip us) :=
  fun _ _ _ _ _ _ us hl => match us, hl with | [_, _, _, _], _ => rfl
theorem hb__law_pass : ∀ (kV doc pm : Value) (an : Option Addr) (cdv ct : Value) (us : List Value), us.length = (["stream", "index", "satellites", "stations", "horizon"] : List Str).length → bindArgs (PySem.W.fnOf "_law_pass" "_law_pass" (defArgs s__law_pass) (defBody s__law_pass) (defScope s__law_pass) .none kV doc pm an cdv ct) ⟨us, []⟩ = pure ((["stream", "index", "satellites", "stations", "horizon"] : List Str).zip us) :=
  fun _ _ _ _ _ _ us hl => match us, hl with | [_, _, _, _, _], _ => rfl
theorem hb__law_world : ∀ (kV doc pm : Value) (an : Option Addr) (cdv ct : Value) (us : List Value), us.length = (["script"] : List Str).length → bindArgs (PySem.W.fnOf "_law_world" "_law_world" (defArgs s__law_world) (defBody s__law_world) (defScope s__law_world) .none kV doc pm an cdv ct) ⟨us, []⟩ = pure ((["script"] : List Str).zip us) :=
  fun _ _ _ _ _ _ us hl => match us, hl with | [_], _ => rfl
theorem hb__law_lines : ∀ (kV doc pm : Value) (an : Option Addr) (cdv ct : Value) (us : List Value), us.length = (["world"] : List Str).length → bindArgs (PySem.W.fnOf "_law_lines" "_law_lines" (defArgs s__law_lines) (defBody s__law_lines) (defScope s__law_lines) .none kV doc pm an cdv ct) ⟨us, []⟩ = pure ((["world"] : List Str).zip us) :=
  fun _ _ _ _ _ _ us hl => match us, hl with | [_], _ => rfl
theorem hb__law_text : ∀ (kV doc pm : Value) (an : Option Addr) (cdv ct : Value) (us : List Value), us.length = (["world"] : List Str).length → bindArgs (PySem.W.fnOf "_law_text" "_law_text" (defArgs s__law_text) (defBody s__law_text) (defScope s__law_text) .none kV doc pm an cdv ct) ⟨us, []⟩ = pure ((["world"] : List Str).zip us) :=
  fun _ _ _ _ _ _ us hl => match us, hl with | [_], _ => rfl
theorem hb__law_is_integer : ∀ (kV doc pm : Value) (an : Option Addr) (cdv ct : Value) (us : List Value), us.length = (["actual"] : List Str).length → bindArgs (PySem.W.fnOf "_law_is_integer" "_law_is_integer" (defArgs s__law_is_integer) (defBody s__law_is_integer) (defScope s__law_is_integer) .none kV doc pm an cdv ct) ⟨us, []⟩ = pure ((["actual"] : List Str).zip us) :=
  fun _ _ _ _ _ _ us hl => match us, hl with | [_], _ => rfl
theorem hb__law_same : ∀ (kV doc pm : Value) (an : Option Addr) (cdv ct : Value) (us : List Value), us.length = (["actual", "expected"] : List Str).length → bindArgs (PySem.W.fnOf "_law_same" "_law_same" (defArgs s__law_same) (defBody s__law_same) (defScope s__law_same) .none kV doc pm an cdv ct) ⟨us, []⟩ = pure ((["actual", "expected"] : List Str).zip us) :=
  fun _ _ _ _ _ _ us hl => match us, hl with | [_, _], _ => rfl
theorem hb_is_option : ∀ (kV doc pm : Value) (an : Option Addr) (cdv ct : Value) (us : List Value), us.length = (["world", "number", "pair"] : List Str).length → bindArgs (PySem.W.fnOf "is_option" "is_option" (defArgs s_is_option) (defBody s_is_option) (defScope s_is_option) .none kV doc pm an cdv ct) ⟨us, []⟩ = pure ((["world", "number", "pair"] : List Str).zip us) :=
  fun _ _ _ _ _ _ us hl => match us, hl with | [_, _, _], _ => rfl
theorem hb_has_antenna : ∀ (kV doc pm : Value) (an : Option Addr) (cdv ct : Value) (us : List Value), us.length = (["world", "p", "antenna"] : List Str).length → bindArgs (PySem.W.fnOf "has_antenna" "has_antenna" (defArgs s_has_antenna) (defBody s_has_antenna) (defScope s_has_antenna) .none kV doc pm an cdv ct) ⟨us, []⟩ = pure ((["world", "p", "antenna"] : List Str).zip us) :=
  fun _ _ _ _ _ _ us hl => match us, hl with | [_, _, _], _ => rfl
theorem hb_is_filled : ∀ (kV doc pm : Value) (an : Option Addr) (cdv ct : Value) (us : List Value), us.length = (["entry"] : List Str).length → bindArgs (PySem.W.fnOf "is_filled" "is_filled" (defArgs s_is_filled) (defBody s_is_filled) (defScope s_is_filled) .none kV doc pm an cdv ct) ⟨us, []⟩ = pure ((["entry"] : List Str).zip us) :=
  fun _ _ _ _ _ _ us hl => match us, hl with | [_], _ => rfl
theorem hb_made_recordings : ∀ (kV doc pm : Value) (an : Option Addr) (cdv ct : Value) (us : List Value), us.length = (["world", "case"] : List Str).length → bindArgs (PySem.W.fnOf "made_recordings" "made_recordings" (defArgs s_made_recordings) (defBody s_made_recordings) (defScope s_made_recordings) .none kV doc pm an cdv ct) ⟨us, []⟩ = pure ((["world", "case"] : List Str).zip us) :=
  fun _ _ _ _ _ _ us hl => match us, hl with | [_, _], _ => rfl
theorem hb_taken_passes : ∀ (kV doc pm : Value) (an : Option Addr) (cdv ct : Value) (us : List Value), us.length = (["world", "case"] : List Str).length → bindArgs (PySem.W.fnOf "taken_passes" "taken_passes" (defArgs s_taken_passes) (defBody s_taken_passes) (defScope s_taken_passes) .none kV doc pm an cdv ct) ⟨us, []⟩ = pure ((["world", "case"] : List Str).zip us) :=
  fun _ _ _ _ _ _ us hl => match us, hl with | [_, _], _ => rfl
theorem hb_busy_things : ∀ (kV doc pm : Value) (an : Option Addr) (cdv ct : Value) (us : List Value), us.length = (["world", "case", "number"] : List Str).length → bindArgs (PySem.W.fnOf "busy_things" "busy_things" (defArgs s_busy_things) (defBody s_busy_things) (defScope s_busy_things) .none kV doc pm an cdv ct) ⟨us, []⟩ = pure ((["world", "case", "number"] : List Str).zip us) :=
  fun _ _ _ _ _ _ us hl => match us, hl with | [_, _, _], _ => rfl
theorem hb_energy_of : ∀ (kV doc pm : Value) (an : Option Addr) (cdv ct : Value) (us : List Value), us.length = (["world", "thing"] : List Str).length → bindArgs (PySem.W.fnOf "energy_of" "energy_of" (defArgs s_energy_of) (defBody s_energy_of) (defScope s_energy_of) .none kV doc pm an cdv ct) ⟨us, []⟩ = pure ((["world", "thing"] : List Str).zip us) :=
  fun _ _ _ _ _ _ us hl => match us, hl with | [_, _], _ => rfl
theorem hb_spending : ∀ (kV doc pm : Value) (an : Option Addr) (cdv ct : Value) (us : List Value), us.length = (["world", "case", "number"] : List Str).length → bindArgs (PySem.W.fnOf "spending" "spending" (defArgs s_spending) (defBody s_spending) (defScope s_spending) .none kV doc pm an cdv ct) ⟨us, []⟩ = pure ((["world", "case", "number"] : List Str).zip us) :=
  fun _ _ _ _ _ _ us hl => match us, hl with | [_, _, _], _ => rfl
theorem hb_charges : ∀ (kV doc pm : Value) (an : Option Addr) (cdv ct : Value) (us : List Value), us.length = (["world", "number"] : List Str).length → bindArgs (PySem.W.fnOf "charges" "charges" (defArgs s_charges) (defBody s_charges) (defScope s_charges) .none kV doc pm an cdv ct) ⟨us, []⟩ = pure ((["world", "number"] : List Str).zip us) :=
  fun _ _ _ _ _ _ us hl => match us, hl with | [_, _], _ => rfl
theorem hb_battery_levels : ∀ (kV doc pm : Value) (an : Option Addr) (cdv ct : Value) (us : List Value), us.length = (["world", "case", "number"] : List Str).length → bindArgs (PySem.W.fnOf "battery_levels" "battery_levels" (defArgs s_battery_levels) (defBody s_battery_levels) (defScope s_battery_levels) .none kV doc pm an cdv ct) ⟨us, []⟩ = pure ((["world", "case", "number"] : List Str).zip us) :=
  fun _ _ _ _ _ _ us hl => match us, hl with | [_, _, _], _ => rfl
theorem hb__law_options : ∀ (kV doc pm : Value) (an : Option Addr) (cdv ct : Value) (us : List Value), us.length = (["world", "number"] : List Str).length → bindArgs (PySem.W.fnOf "_law_options" "_law_options" (defArgs s__law_options) (defBody s__law_options) (defScope s__law_options) .none kV doc pm an cdv ct) ⟨us, []⟩ = pure ((["world", "number"] : List Str).zip us) :=
  fun _ _ _ _ _ _ us hl => match us, hl with | [_, _], _ => rfl
theorem hb__law_case : ∀ (kV doc pm : Value) (an : Option Addr) (cdv ct : Value) (us : List Value), us.length = (["script", "first", "world", "open_too"] : List Str).length → bindArgs (PySem.W.fnOf "_law_case" "_law_case" (defArgs s__law_case) (defBody s__law_case) (defScope s__law_case) .none kV doc pm an cdv ct) ⟨us, []⟩ = pure ((["script", "first", "world", "open_too"] : List Str).zip us) :=
  fun _ _ _ _ _ _ us hl => match us, hl with | [_, _, _, _], _ => rfl
theorem hb__law_made : ∀ (kV doc pm : Value) (an : Option Addr) (cdv ct : Value) (us : List Value), us.length = (["world", "case", "s"] : List Str).length → bindArgs (PySem.W.fnOf "_law_made" "_law_made" (defArgs s__law_made) (defBody s__law_made) (defScope s__law_made) .none kV doc pm an cdv ct) ⟨us, []⟩ = pure ((["world", "case", "s"] : List Str).zip us) :=
  fun _ _ _ _ _ _ us hl => match us, hl with | [_, _, _], _ => rfl
theorem hb__law_has_antenna : ∀ (kV doc pm : Value) (an : Option Addr) (cdv ct : Value) (us : List Value), us.length = (["world", "case", "p"] : List Str).length → bindArgs (PySem.W.fnOf "_law_has_antenna" "_law_has_antenna" (defArgs s__law_has_antenna) (defBody s__law_has_antenna) (defScope s__law_has_antenna) .none kV doc pm an cdv ct) ⟨us, []⟩ = pure ((["world", "case", "p"] : List Str).zip us) :=
  fun _ _ _ _ _ _ us hl => match us, hl with | [_, _, _], _ => rfl
theorem hb__law_taken : ∀ (kV doc pm : Value) (an : Option Addr) (cdv ct : Value) (us : List Value), us.length = (["world", "case", "s"] : List Str).length → bindArgs (PySem.W.fnOf "_law_taken" "_law_taken" (defArgs s__law_taken) (defBody s__law_taken) (defScope s__law_taken) .none kV doc pm an cdv ct) ⟨us, []⟩ = pure ((["world", "case", "s"] : List Str).zip us) :=
  fun _ _ _ _ _ _ us hl => match us, hl with | [_, _, _], _ => rfl
theorem hb_store_used : ∀ (kV doc pm : Value) (an : Option Addr) (cdv ct : Value) (us : List Value), us.length = (["world", "case", "number"] : List Str).length → bindArgs (PySem.W.fnOf "store_used" "store_used" (defArgs s_store_used) (defBody s_store_used) (defScope s_store_used) .none kV doc pm an cdv ct) ⟨us, []⟩ = pure ((["world", "case", "number"] : List Str).zip us) :=
  fun _ _ _ _ _ _ us hl => match us, hl with | [_, _, _], _ => rfl
theorem hb_events_of : ∀ (kV doc pm : Value) (an : Option Addr) (cdv ct : Value) (us : List Value), us.length = (["world", "case"] : List Str).length → bindArgs (PySem.W.fnOf "events_of" "events_of" (defArgs s_events_of) (defBody s_events_of) (defScope s_events_of) .none kV doc pm an cdv ct) ⟨us, []⟩ = pure ((["world", "case"] : List Str).zip us) :=
  fun _ _ _ _ _ _ us hl => match us, hl with | [_, _], _ => rfl
theorem hb_is_tuple_of : ∀ (kV doc pm : Value) (an : Option Addr) (cdv ct : Value) (us : List Value), us.length = (["thing", "many"] : List Str).length → bindArgs (PySem.W.fnOf "is_tuple_of" "is_tuple_of" (defArgs s_is_tuple_of) (defBody s_is_tuple_of) (defScope s_is_tuple_of) .none kV doc pm an cdv ct) ⟨us, []⟩ = pure ((["thing", "many"] : List Str).zip us) :=
  fun _ _ _ _ _ _ us hl => match us, hl with | [_, _], _ => rfl
theorem hb_is_made_entry : ∀ (kV doc pm : Value) (an : Option Addr) (cdv ct : Value) (us : List Value), us.length = (["world", "entry"] : List Str).length → bindArgs (PySem.W.fnOf "is_made_entry" "is_made_entry" (defArgs s_is_made_entry) (defBody s_is_made_entry) (defScope s_is_made_entry) .none kV doc pm an cdv ct) ⟨us, []⟩ = pure ((["world", "entry"] : List Str).zip us) :=
  fun _ _ _ _ _ _ us hl => match us, hl with | [_, _], _ => rfl
theorem hb_is_taken_entry : ∀ (kV doc pm : Value) (an : Option Addr) (cdv ct : Value) (us : List Value), us.length = (["entry"] : List Str).length → bindArgs (PySem.W.fnOf "is_taken_entry" "is_taken_entry" (defArgs s_is_taken_entry) (defBody s_is_taken_entry) (defScope s_is_taken_entry) .none kV doc pm an cdv ct) ⟨us, []⟩ = pure ((["entry"] : List Str).zip us) :=
  fun _ _ _ _ _ _ us hl => match us, hl with | [_], _ => rfl
theorem hb_check_case : ∀ (kV doc pm : Value) (an : Option Addr) (cdv ct : Value) (us : List Value), us.length = (["world", "case"] : List Str).length → bindArgs (PySem.W.fnOf "check_case" "check_case" (defArgs s_check_case) (defBody s_check_case) (defScope s_check_case) .none kV doc pm an cdv ct) ⟨us, []⟩ = pure ((["world", "case"] : List Str).zip us) :=
  fun _ _ _ _ _ _ us hl => match us, hl with | [_, _], _ => rfl
theorem hb_Flight___init__ : ∀ (kV doc pm : Value) (an : Option Addr) (cdv ct : Value) (us : List Value), us.length = (["self", "world", "case"] : List Str).length → bindArgs (PySem.W.fnOf "__init__" "Flight.__init__" (defArgs s_Flight___init__) (defBody s_Flight___init__) (defScope s_Flight___init__) .none kV doc pm an cdv ct) ⟨us, []⟩ = pure ((["self", "world", "case"] : List Str).zip us) :=
  fun _ _ _ _ _ _ us hl => match us, hl with | [_, _, _], _ => rfl
theorem hb_Flight___iter__ : ∀ (kV doc pm : Value) (an : Option Addr) (cdv ct : Value) (us : List Value), us.length = (["self"] : List Str).length → bindArgs (PySem.W.fnOf "__iter__" "Flight.__iter__" (defArgs s_Flight___iter__) (defBody s_Flight___iter__) (defScope s_Flight___iter__) .none kV doc pm an cdv ct) ⟨us, []⟩ = pure ((["self"] : List Str).zip us) :=
  fun _ _ _ _ _ _ us hl => match us, hl with | [_], _ => rfl
theorem hb_Flight___len__ : ∀ (kV doc pm : Value) (an : Option Addr) (cdv ct : Value) (us : List Value), us.length = (["self"] : List Str).length → bindArgs (PySem.W.fnOf "__len__" "Flight.__len__" (defArgs s_Flight___len__) (defBody s_Flight___len__) (defScope s_Flight___len__) .none kV doc pm an cdv ct) ⟨us, []⟩ = pure ((["self"] : List Str).zip us) :=
  fun _ _ _ _ _ _ us hl => match us, hl with | [_], _ => rfl
theorem hb_law : ∀ (kV doc pm : Value) (an : Option Addr) (cdv ct : Value) (us : List Value), us.length = (["script"] : List Str).length → bindArgs (PySem.W.fnOf "law" "law" (defArgs s_law) (defBody s_law) (defScope s_law) .none kV doc pm an cdv ct) ⟨us, []⟩ = pure ((["script"] : List Str).zip us) :=
  fun _ _ _ _ _ _ us hl => match us, hl with | [_], _ => rfl
theorem fin {l : PySem.W.OpenLaw} {w : World} {K : PySem.W.Frag} {mg : Str → Option Value} {fa CL CS CT CR CP CW aS aR fS fT fR fP CF aWd CB : Addr} (hfa : mg "law" = some (.ref fa)) (T : TxtW K mg CL CS CT CR CP CW aS aR fS fT fR fP) (F : PF K mg CL CS CT CR CP CW)
    (a__law_cell : At K mg "_law_cell" s__law_cell ["script", "k"])
    (a__law_draws : At K mg "_law_draws" s__law_draws ["cell", "count"])
    (a__law_stream : At K mg "_law_stream" s__law_stream ["script", "first", "count"])
    (a__law_next : At K mg "_law_next" s__law_next ["stream", "many"])
    (a__law_word : At K mg "_law_word" s__law_word ["stream", "index"])
    (a__law_satellite : At K mg "_law_satellite" s__law_satellite ["stream", "index", "horizon"])
    (a__law_recording : At K mg "_law_recording" s__law_recording ["stream", "index", "satellites", "horizon"])
    (a__law_pass : At K mg "_law_pass" s__law_pass ["stream", "index", "satellites", "stations", "horizon"])
    (a__law_world : At K mg "_law_world" s__law_world ["script"])
    (a__law_lines : At K mg "_law_lines" s__law_lines ["world"])
    (a__law_text : At K mg "_law_text" s__law_text ["world"])
    (a__law_is_integer : At K mg "_law_is_integer" s__law_is_integer ["actual"])
    (a__law_same : At K mg "_law_same" s__law_same ["actual", "expected"])
    (a_is_option : At K mg "is_option" s_is_option ["world", "number", "pair"])
    (a_has_antenna : At K mg "has_antenna" s_has_antenna ["world", "p", "antenna"])
    (a_is_filled : At K mg "is_filled" s_is_filled ["entry"])
    (a_made_recordings : At K mg "made_recordings" s_made_recordings ["world", "case"])
    (a_taken_passes : At K mg "taken_passes" s_taken_passes ["world", "case"])
    (a_busy_things : At K mg "busy_things" s_busy_things ["world", "case", "number"])
    (a_energy_of : At K mg "energy_of" s_energy_of ["world", "thing"])
    (a_spending : At K mg "spending" s_spending ["world", "case", "number"])
    (a_charges : At K mg "charges" s_charges ["world", "number"])
    (a_battery_levels : At K mg "battery_levels" s_battery_levels ["world", "case", "number"])
    (a__law_options : At K mg "_law_options" s__law_options ["world", "number"])
    (a__law_case : At K mg "_law_case" s__law_case ["script", "first", "world", "open_too"])
    (a__law_made : At K mg "_law_made" s__law_made ["world", "case", "s"])
    (a__law_has_antenna : At K mg "_law_has_antenna" s__law_has_antenna ["world", "case", "p"])
    (a__law_taken : At K mg "_law_taken" s__law_taken ["world", "case", "s"])
    (a_store_used : At K mg "store_used" s_store_used ["world", "case", "number"])
    (a_events_of : At K mg "events_of" s_events_of ["world", "case"])
    (a_is_tuple_of : At K mg "is_tuple_of" s_is_tuple_of ["thing", "many"])
    (a_is_made_entry : At K mg "is_made_entry" s_is_made_entry ["world", "entry"])
    (a_is_taken_entry : At K mg "is_taken_entry" s_is_taken_entry ["entry"])
    (a_check_case : At K mg "check_case" s_check_case ["world", "case"])
    (a_Flight___init__ : MAt K CF "__init__" "Flight.__init__" s_Flight___init__ ["self", "world", "case"])
    (a_Flight___iter__ : MAt K CF "__iter__" "Flight.__iter__" s_Flight___iter__ ["self"])
    (a_Flight___len__ : MAt K CF "__len__" "Flight.__len__" s_Flight___len__ ["self"])
    (a_law : At K mg "law" s_law ["script"])
    (TO : TxtO mg)
    (TF : TxtFl K mg CF)
    (TEv : TxtF K mg aWd)
    (TE : TxtE K mg CB)
    (BI : mg "iter" = none)
    : ∃ fd : FuncData, (∀ (s : Shared) (v : Value), BindsTo s fd ⟨[v], []⟩ [("script", v)]) ∧ ∀ base : Heap, K.In base → base.Ns mainGlobals mg → FnOk l.prog w K mg base CX0 10 fa fd ["script"] (spLaw K) :=
  a_law.end_ hfa (fun base => the_law T F a__law_cell a__law_draws a__law_stream a__law_next a__law_word a__law_satellite a__law_recording a__law_pass a__law_world a__law_lines a__law_text a__law_is_integer a__law_same a_is_option a_has_antenna a_is_filled a_made_recordings a_taken_passes a_busy_things a_energy_of a_spending a_charges a_battery_levels a__law_options a__law_case a__law_made a__law_has_antenna a__law_taken a_store_used a_events_of a_is_tuple_of a_is_made_entry a_is_taken_entry a_check_case a_Flight___init__ a_Flight___iter__ a_Flight___len__ a_law TO TF TEv TE BI) (fun _ _ _ _ _ _ _ => rfl)
end DP
open PySem PySem.W PyProof.Rows
def PySem.W.Fast.tw11814218815797101037 : Unit := ()
def PySem.W.Fast.tw6277233867508923558 : Unit := ()
def PySem.W.Fast.tw4642900424091374482 : Unit := ()
def PySem.W.Fast.tw11901043576180446239 : Unit := ()
def PySem.W.Fast.tw16906684072249841899 : Unit := ()
def PySem.W.Fast.tw4794963746117450463 : Unit := ()
def PySem.W.Fast.tw13367188169992017674 : Unit := ()
def PySem.W.Fast.tw10754801759283444285 : Unit := ()
def PySem.W.Fast.tw11561321288412880329 : Unit := ()
def PySem.W.Fast.tw10014227133166792915 : Unit := ()
def PySem.W.Fast.tw11507903526219395318 : Unit := ()
def PySem.W.Fast.tw889773367360995201 : Unit := ()
def PySem.W.Fast.tw5366753724251067080 : Unit := ()
def PySem.W.Fast.tw11397134483005637578 : Unit := ()
def PySem.W.Fast.tw6914866886571676961 : Unit := ()
def PySem.W.Fast.tw3270860631795583795 : Unit := ()
def PySem.W.Fast.tw15790812503057606738 : Unit := ()
def PySem.W.Fast.tw1794314352763125342 : Unit := ()
def PySem.W.Fast.tw10762680488256281580 : Unit := ()
def PySem.W.Fast.tw10121540974824940168 : Unit := ()
def PySem.W.Fast.tw6908868185965561291 : Unit := ()
def PySem.W.Fast.tw6990695692634696665 : Unit := ()
def PySem.W.Fast.tw10082677393354712762 : Unit := ()
def PySem.W.Fast.tw9374808077328358319 : Unit := ()
def PySem.W.Fast.tw14900990094658526583 : Unit := ()
def PySem.W.Fast.tw12769708561082661596 : Unit := ()
def PySem.W.Fast.tw2822854528759601627 : Unit := ()
def PySem.W.Fast.tw5145794696354876632 : Unit := ()
def PySem.W.Fast.tw16254697869023804725 : Unit := ()
def PySem.W.Fast.tw14156219918923544014 : Unit := ()
def PySem.W.Fast.tw7208074484342102310 : Unit := ()
def PySem.W.Fast.tw855481591121178846 : Unit := ()
def PySem.W.Fast.tw15402379999911414335 : Unit := ()
def PySem.W.Fast.tw1417338464948945970 : Unit := ()
def PySem.W.Fast.tw10114207250792446503 : Unit := ()
def PySem.W.Fast.tw13249668672464486433 : Unit := ()
def PySem.W.Fast.tw1518920431776416790 : Unit := ()
def PySem.W.Fast.tw4007189962512383179 : Unit := ()
def PySem.W.Fast.tw1549849501887070527 : Unit := ()
def PySem.W.Fast.tw15243596240911240022 : Unit := ()
def PySem.W.Fast.tw14902176658629271507 : Unit := ()
def PySem.W.Fast.tw10692221189747144626 : Unit := ()
def PySem.W.Fast.tw17843168162455728751 : Unit := ()
def PySem.W.Fast.tw7083618834703815437 : Unit := ()
def PySem.W.Fast.tw2070113142407694648 : Unit := ()
def PySem.W.Fast.tw10203757385866205313 : Unit := ()
def PySem.W.Fast.tw7202178138968229913 : Unit := ()
def PySem.W.Fast.tw10374632558016547081 : Unit := ()
def PySem.W.Fast.tw14381875762145274275 : Unit := ()
def PySem.W.Fast.tw17647356878790124951 : Unit := ()
def PySem.W.Fast.tw6148891448256914594 : Unit := ()
def PySem.W.Fast.tw3441514328437156967 : Unit := ()
def PySem.W.Fast.tw8800983765282376249 : Unit := ()
def PySem.W.Fast.tw16871580299446076136 : Unit := ()
def PySem.W.Fast.tw15246124333498895510 : Unit := ()
def PySem.W.Fast.tw2572297299704128656 : Unit := ()
def PySem.W.Fast.tw25877780470424934 : Unit := ()
def PySem.W.Fast.tw201770750228116641 : Unit := ()
def PySem.W.Fast.tw10449473527878454849 : Unit := ()
def PySem.W.Fast.tw3755280746997383850 : Unit := ()
def PySem.W.Fast.tw8336932084103270191 : Unit := ()
def PySem.W.Fast.tw8805120828992570025 : Unit := ()
def PySem.W.Fast.tw17192441067869180167 : Unit := ()
def PySem.W.Fast.tw10042083083395451092 : Unit := ()
def PySem.W.Fast.tw3756525173185541929 : Unit := ()
def PySem.W.Fast.tw8015303455563718912 : Unit := ()
def PySem.W.Fast.tw653093249099571876 : Unit := ()
def PySem.W.Fast.tw13752357751451441995 : Unit := ()
def PySem.W.Fast.tw6415743378755101925 : Unit := ()
def PySem.W.Fast.tw12816407219251311171 : Unit := ()
def PySem.W.Fast.tw7478123994339007903 : Unit := ()
def PySem.W.Fast.tw936880607376485977 : Unit := ()
def PySem.W.Fast.tw7046039950466883348 : Unit := ()
def PySem.W.Fast.tw4148533619186036948 : Unit := ()
def PySem.W.Fast.tw12052720865969862309 : Unit := ()
def PySem.W.Fast.tw8359988921792034652 : Unit := ()
def PySem.W.Fast.tw9727464852744890877 : Unit := ()
def PySem.W.Fast.tw6686765236720167877 : Unit := ()
def PySem.W.Fast.tw6427576097997697322 : Unit := ()
def PySem.W.Fast.tw17496485065790304159 : Unit := ()
def PySem.W.Fast.tw1530525053224479130 : Unit := ()
def PySem.W.Fast.tw12325662424483369102 : Unit := ()
def PySem.W.Fast.tw17974506094581304612 : Unit := ()
def PySem.W.Fast.tw15579122977737235979 : Unit := ()
def PySem.W.Fast.tw5710976707192308385 : Unit := ()
def PySem.W.Fast.tw3945831679567021610 : Unit := ()
def PySem.W.Fast.tw5634879105068955787 : Unit := ()
def PySem.W.Fast.tw1773459157877013602 : Unit := ()
def PySem.W.Fast.tw10771671333969693175 : Unit := ()
def PySem.W.Fast.tw13294680673763070992 : Unit := ()
def PySem.W.Fast.tw16380965088707415623 : Unit := ()
def PySem.W.Fast.tw6964705199298857659 : Unit := ()
def PySem.W.Fast.tw10199421320940215857 : Unit := ()
def PySem.W.Fast.tw13114645530532618160 : Unit := ()
def PySem.W.Fast.tw16563755786747866690 : Unit := ()
def PySem.W.Fast.tw11693022853682959955 : Unit := ()
def PySem.W.Fast.tw12598866579315506407 : Unit := ()
def PySem.W.Fast.tw7029441310896991908 : Unit := ()
def PySem.W.Fast.tw3018832936866718161 : Unit := ()
def PySem.W.Fast.tw730961619353400375 : Unit := ()
def PySem.W.Fast.tw2875624504187281209 : Unit := ()
def PySem.W.Fast.tw8742817616077272606 : Unit := ()
def PySem.W.Fast.tw903024190392523500 : Unit := ()
def PySem.W.Fast.tw6884460384040791391 : Unit := ()
def PySem.W.Fast.tw8758443347247461665 : Unit := ()
def PySem.W.Fast.tw17494894328491470735 : Unit := ()
def PySem.W.Fast.tw5552296727619142977 : Unit := ()
def PySem.W.Fast.tw10167646349310259628 : Unit := ()
def PySem.W.Fast.tw17653592248189364939 : Unit := ()
def PySem.W.Fast.tw14455000634103909786 : Unit := ()
def PySem.W.Fast.tw5752807912207464317 : Unit := ()
def PySem.W.Fast.tw16202735626409321261 : Unit := ()
def PySem.W.Fast.tw2913531160240911109 : Unit := ()
def PySem.W.Fast.tw3181531512396954708 : Unit := ()
def PySem.W.Fast.tw8966131664815694762 : Unit := ()
def PySem.W.Fast.tw16506471722634982818 : Unit := ()
def PySem.W.Fast.tw9057035906848192889 : Unit := ()
def PySem.W.Fast.tw18262670878535919901 : Unit := ()
def PySem.W.Fast.tw1802766373655456871 : Unit := ()
def PySem.W.Fast.tw350743294135860469 : Unit := ()
def PySem.W.Fast.tw15062127977220616739 : Unit := ()
def PySem.W.Fast.tw6565414023582247074 : Unit := ()
def PySem.W.Fast.tw1624323068313547334 : Unit := ()
def PySem.W.Fast.tw15163409612377130007 : Unit := ()
def PySem.W.Fast.tw12539006892125422612 : Unit := ()
def PySem.W.Fast.tw8726500145642417389 : Unit := ()
def PySem.W.Fast.tw9176024353136599441 : Unit := ()
def PySem.W.Fast.tw6344153461787385748 : Unit := ()
def PySem.W.Fast.tw10745233467358560665 : Unit := ()
def PySem.W.Fast.tw12103309309050226592 : Unit := ()
def PySem.W.Fast.tw10368827614151553891 : Unit := ()
def PySem.W.Fast.tw8215439957894238634 : Unit := ()
def PySem.W.Fast.tw4778578598788473003 : Unit := ()
def PySem.W.Fast.tw14019768675606591570 : Unit := ()
def PySem.W.Fast.tw4881592894971031630 : Unit := ()
def PySem.W.Fast.tw11899693301848689474 : Unit := ()
def PySem.W.Fast.tw12176265147828701554 : Unit := ()
def PySem.W.Fast.tw12809436989009611891 : Unit := ()
def PySem.W.Fast.tw2786648768249225349 : Unit := ()
def PySem.W.Fast.tw15940189497356661072 : Unit := ()
def PySem.W.Fast.tw10399266401953251271 : Unit := ()
def PySem.W.Fast.tw12701470058032328615 : Unit := ()
def PySem.W.Fast.tw8184489544292146737 : Unit := ()
def PySem.W.Fast.tw3481832742750146777 : Unit := ()
def PySem.W.Fast.tw9628386662896749208 : Unit := ()
def PySem.W.Fast.tw6594970650091316094 : Unit := ()
def PySem.W.Fast.tw3024114046926040895 : Unit := ()
def PySem.W.Fast.tw16899829786455025840 : Unit := ()
def PySem.W.Fast.tw15626226284100447636 : Unit := ()
def PySem.W.Fast.tw15617008699501574997 : Unit := ()
def PySem.W.Fast.tw13968170938045774931 : Unit := ()
def PySem.W.Fast.tw18438055454900119596 : Unit := ()
def PySem.W.Fast.tw966166296225237126 : Unit := ()
def PySem.W.Fast.tw1478030337931831861 : Unit := ()
def PySem.W.Fast.tw13758190518337804936 : Unit := ()
def PySem.W.Fast.tw9586009075069172419 : Unit := ()
def PySem.W.Fast.tw8995673831042748150 : Unit := ()
def PySem.W.Fast.tw14145249242217061149 : Unit := ()
def PySem.W.Fast.tw14575388751658381831 : Unit := ()
def PySem.W.Fast.tw9266374589662076923 : Unit := ()
def PySem.W.Fast.tw9385439782273163706 : Unit := ()
def PySem.W.Fast.tw2736609738390219042 : Unit := ()
def PySem.W.Fast.tw10903146660539688938 : Unit := ()
def PySem.W.Fast.tw6550704214607550460 : Unit := ()
def PySem.W.Fast.tw11948173574018764312 : Unit := ()
def PySem.W.Fast.tw1746151400102762189 : Unit := ()
def PySem.W.Fast.tw4298751548922799387 : Unit := ()
def PySem.W.Fast.tw4120328187809186673 : Unit := ()
def PySem.W.Fast.tw17724038513149304489 : Unit := ()
def PySem.W.Fast.tw4139333405863992284 : Unit := ()
def PySem.W.Fast.tw14924318195137828155 : Unit := ()
def PySem.W.Fast.tw9368122197164973604 : Unit := ()
def PySem.W.Fast.tw16908879951863101172 : Unit := ()
def PySem.W.Fast.tw13485263441057248554 : Unit := ()
def PySem.W.Fast.tw9705477135408329381 : Unit := ()
def PySem.W.Fast.tw11589282660436910429 : Unit := ()
def PySem.W.Fast.tw16051030151491357612 : Unit := ()
def PySem.W.Fast.tw11346864328391097527 : Unit := ()
def PySem.W.Fast.tw3186221956325709200 : Unit := ()
def PySem.W.Fast.tw16332562447767158278 : Unit := ()
def PySem.W.Fast.tw17941610651245897021 : Unit := ()
def PySem.W.Fast.tw6148365751059978729 : Unit := ()
def PySem.W.Fast.tw16046435833275179198 : Unit := ()
def PySem.W.Fast.tw11521511281804667912 : Unit := ()
def PySem.W.Fast.tw2353971826329051332 : Unit := ()
def PySem.W.Fast.tw15530356413301135991 : Unit := ()
def PySem.W.Fast.tw12087975975781369836 : Unit := ()
def PySem.W.Fast.tw14257035121206530791 : Unit := ()
def PySem.W.Fast.tw18237906538492839801 : Unit := ()
def PySem.W.Fast.tw2992238238014362344 : Unit := ()
def PySem.W.Fast.tw3507769193172341495 : Unit := ()
def PySem.W.Fast.tw13578020157988156910 : Unit := ()
def PySem.W.Fast.tw266865212036300189 : Unit := ()
def PySem.W.Fast.tw9583418258255874565 : Unit := ()
def PySem.W.Fast.tw17059841922676754641 : Unit := ()
def PySem.W.Fast.tw11589342450005873132 : Unit := ()
def PySem.W.Fast.tw14906553487110277155 : Unit := ()
def PySem.W.Fast.tw20248706157231231 : Unit := ()
def PySem.W.Fast.tw3998647374267775353 : Unit := ()
def PySem.W.Fast.tw9300808954929066293 : Unit := ()
def PySem.W.Fast.tw2496362408549399009 : Unit := ()
def PySem.W.Fast.tw10338398162516547025 : Unit := ()
def PySem.W.Fast.tw14221096863170989933 : Unit := ()
def PySem.W.Fast.tw7466306040279636442 : Unit := ()
def PySem.W.Fast.tw5617726103321767126 : Unit := ()
def PySem.W.Fast.tw15279809834360698895 : Unit := ()
def PySem.W.Fast.tw6297692896331399460 : Unit := ()
def PySem.W.Fast.tw16828129974981846989 : Unit := ()
def PySem.W.Fast.tw3403988585091769449 : Unit := ()
def PySem.W.Fast.tw771822569319705768 : Unit := ()
def PySem.W.Fast.tw4891155283279915023 : Unit := ()
def PySem.W.Fast.tw1968430746851473036 : Unit := ()
def PySem.W.Fast.tw9942562575998753845 : Unit := ()
def PySem.W.Fast.tw3615178456390077923 : Unit := ()
def PySem.W.Fast.tw10019012548757998224 : Unit := ()
def PySem.W.Fast.tw10000665274644299833 : Unit := ()
def PySem.W.Fast.tw12902166330736054541 : Unit := ()
def PySem.W.Fast.tw15916013147842562308 : Unit := ()
def PySem.W.Fast.tw15793473763280161150 : Unit := ()
def PySem.W.Fast.tw15087498900868403761 : Unit := ()
def PySem.W.Fast.tw12145756527313086355 : Unit := ()
def PySem.W.Fast.tw15606834981724049387 : Unit := ()
def PySem.W.Fast.tw4705034193704625203 : Unit := ()
def PySem.W.Fast.tw55536753830339475 : Unit := ()
def PySem.W.Fast.tw9017748033538871416 : Unit := ()
def PySem.W.Fast.tw11077171220434159658 : Unit := ()
def PySem.W.Fast.tw13797355535440723964 : Unit := ()
def PySem.W.Fast.tw1253127297229968123 : Unit := ()
def PySem.W.Fast.tw11018145951921344529 : Unit := ()
def PySem.W.Fast.tw7849710539792303170 : Unit := ()
def PySem.W.Fast.tw2648963287430406096 : Unit := ()
def PySem.W.Fast.tw9206141786237547592 : Unit := ()
def PySem.W.Fast.tw12652432740844512721 : Unit := ()
def PySem.W.Fast.tw3239726496819932882 : Unit := ()
def PySem.W.Fast.tw3907729119962355018 : Unit := ()
def PySem.W.Fast.tw14565471765716263578 : Unit := ()
def PySem.W.Fast.tw17863247350239516317 : Unit := ()
def PySem.W.Fast.tw16216476560635493584 : Unit := ()
def PySem.W.Fast.tw15795137049058576456 : Unit := ()
def PySem.W.Fast.tw10058038804481632426 : Unit := ()
def PySem.W.Fast.tw5320619654261168702 : Unit := ()
def PySem.W.Fast.tw11903097693493003620 : Unit := ()
def PySem.W.Fast.tw7155359931933253843 : Unit := ()
def PySem.W.Fast.tw9380741260308362100 : Unit := ()
def PySem.W.Fast.tw17445344336706051463 : Unit := ()
def PySem.W.Fast.tw12997797890453418503 : Unit := ()
def PySem.W.Fast.tw17357851268252398515 : Unit := ()
def PySem.W.Fast.tw13172660604052367476 : Unit := ()
def PySem.W.Fast.tw16153686074110841394 : Unit := ()
def PySem.W.Fast.tw14918149091892597614 : Unit := ()
def PySem.W.Fast.tw15018716904364860632 : Unit := ()
def PySem.W.Fast.tw206582138325595820 : Unit := ()
def PySem.W.Fast.tw13171189065178304875 : Unit := ()
def PySem.W.Fast.tw4244922878905308065 : Unit := ()
def PySem.W.Fast.tw2463159546536120769 : Unit := ()
def PySem.W.Fast.tw12592172766608505503 : Unit := ()
def PySem.W.Fast.tw4976532014690838185 : Unit := ()
def PySem.W.Fast.tw16159750380562633221 : Unit := ()
def PySem.W.Fast.tw13732051381489595846 : Unit := ()
def PySem.W.Fast.tw206458477050631689 : Unit := ()
def PySem.W.Fast.tw7873823757921102712 : Unit := ()
def PySem.W.Fast.tw10094546317475930288 : Unit := ()
def PySem.W.Fast.tw7249309231779463276 : Unit := ()
def PySem.W.Fast.tw6265987150890485897 : Unit := ()
def PySem.W.Fast.tw18067573513918842264 : Unit := ()
def PySem.W.Fast.tw6605169337270321112 : Unit := ()
def PySem.W.Fast.tw5114918623987374716 : Unit := ()
def PySem.W.Fast.tw9424196490166125312 : Unit := ()
def PySem.W.Fast.tw10390936311373634846 : Unit := ()
def PySem.W.Fast.tw15654058947040767848 : Unit := ()
def PySem.W.Fast.tw4563574211093696666 : Unit := ()
def PySem.W.Fast.tw16729077633258034165 : Unit := ()
def PySem.W.Fast.tw3328698262378449831 : Unit := ()
def PySem.W.Fast.tw3112634735961092027 : Unit := ()
def PySem.W.Fast.tw6164951957248312632 : Unit := ()
def PySem.W.Fast.tw13374226786849659508 : Unit := ()
def PySem.W.Fast.tw7893645736953833228 : Unit := ()
def PySem.W.Fast.tw5472014076119043557 : Unit := ()
def PySem.W.Fast.tw10257955065651855134 : Unit := ()
def PySem.W.Fast.tw9385026881006844408 : Unit := ()
def PySem.W.Fast.tw9023412946914863120 : Unit := ()
def PySem.W.Fast.tw2479909634843643777 : Unit := ()
def PySem.W.Fast.tw4847832954114039074 : Unit := ()
def PySem.W.Fast.tw13884367587086393650 : Unit := ()
def PySem.W.Fast.tw1422820162477861617 : Unit := ()
def PySem.W.Fast.tw1484588488312774368 : Unit := ()
def PySem.W.Fast.tw15500950679217378802 : Unit := ()
def PySem.W.Fast.tw17426987436379436081 : Unit := ()
def PySem.W.Fast.tw9326592196723003686 : Unit := ()
def PySem.W.Fast.tw9963158189385663130 : Unit := ()
def PySem.W.Fast.tw14572810596863954285 : Unit := ()
def PySem.W.Fast.tw13142723645059500955 : Unit := ()
def PySem.W.Fast.tw3436668677267843481 : Unit := ()
def PySem.W.Fast.tw14902404871612966209 : Unit := ()
def PySem.W.Fast.tw14920823985818648580 : Unit := ()
def PySem.W.Fast.tw17723881924890802966 : Unit := ()
def PySem.W.Fast.tw9076787650804036852 : Unit := ()
def PySem.W.Fast.tw2369294140325686055 : Unit := ()
def PySem.W.Fast.tw13519031799517361783 : Unit := ()
def PySem.W.Fast.tw8546443801280560121 : Unit := ()
def PySem.W.Fast.tw10619231889807973815 : Unit := ()
def PySem.W.Fast.tw18211048799242779638 : Unit := ()
def PySem.W.Fast.tw2343285291557775378 : Unit := ()
def PySem.W.Fast.tw182548527808355788 : Unit := ()
def PySem.W.Fast.tw1116146690788884255 : Unit := ()
def PySem.W.Fast.tw7998388988547395671 : Unit := ()
def PySem.W.Fast.tw3237361815906912622 : Unit := ()
def PySem.W.Fast.tw6957663135803877297 : Unit := ()
def PySem.W.Fast.tw16030336908351663669 : Unit := ()
def PySem.W.Fast.tw2706584449700448635 : Unit := ()
def PySem.W.Fast.tw18017129668781235815 : Unit := ()
def PySem.W.Fast.tw8713271285026299272 : Unit := ()
def PySem.W.Fast.tw6861777633991150784 : Unit := ()
def PySem.W.Fast.tw14769054280063640981 : Unit := ()
def PySem.W.Fast.tw12926932280828267440 : Unit := ()
def PySem.W.Fast.tw13019310290528795458 : Unit := ()
def PySem.W.Fast.tw2849704279308238487 : Unit := ()
def PySem.W.Fast.tw5501259433348887635 : Unit := ()
def PySem.W.Fast.tw15330094304956249610 : Unit := ()
def PySem.W.Fast.tw11788636936952823106 : Unit := ()
def PySem.W.Fast.tw3210817489611942815 : Unit := ()
def PySem.W.Fast.tw11509013576261040710 : Unit := ()
def PySem.W.Fast.tw5543438740188009985 : Unit := ()
def PySem.W.Fast.tw10416115033411757899 : Unit := ()
def PySem.W.Fast.tw1287781588520737546 : Unit := ()
def PySem.W.Fast.tw9721000390032803332 : Unit := ()
def PySem.W.Fast.tw6008232320854092231 : Unit := ()
def PySem.W.Fast.tw5344885176932410299 : Unit := ()
def PySem.W.Fast.tw5232775305885696284 : Unit := ()
def PySem.W.Fast.tw11509211604773734946 : Unit := ()
def PySem.W.Fast.tw2575207979326191193 : Unit := ()
def PySem.W.Fast.tw1831729633985795129 : Unit := ()
def PySem.W.Fast.tw3187600833561265495 : Unit := ()
def PySem.W.Fast.tw11070388883789476980 : Unit := ()
def PySem.W.Fast.tw11606288678410610225 : Unit := ()
def PySem.W.Fast.tw164352185463013549 : Unit := ()
def PySem.W.Fast.tw9727090134516633575 : Unit := ()
def PySem.W.Fast.tw3636596134837014001 : Unit := ()
def PySem.W.Fast.tw8576567503900213490 : Unit := ()
def PySem.W.Fast.tw10974669485727509664 : Unit := ()
def PySem.W.Fast.tw10971829966401845888 : Unit := ()
def PySem.W.Fast.tw14538010974564807823 : Unit := ()
def PySem.W.Fast.tw8579255650390675538 : Unit := ()
def PySem.W.Fast.tw14490095542210971326 : Unit := ()
def PySem.W.Fast.tw5201108935207980071 : Unit := ()
def PySem.W.Fast.tw55967982260289129 : Unit := ()
def PySem.W.Fast.tw8315870748520557961 : Unit := ()
def PySem.W.Fast.tw8043852737389195627 : Unit := ()
def PySem.W.Fast.tw11203397026859942297 : Unit := ()
def PySem.W.Fast.tw17712571637424770508 : Unit := ()
def PySem.W.Fast.tw13951883219540855227 : Unit := ()
def PySem.W.Fast.tw10784835557568832518 : Unit := ()
def PySem.W.Fast.tw10203300007123444082 : Unit := ()
def PySem.W.Fast.tw7704230158044033006 : Unit := ()
def PySem.W.Fast.tw8490095065718275380 : Unit := ()
def PySem.W.Fast.tw115167043885905223 : Unit := ()
def PySem.W.Fast.tw17322059916419148152 : Unit := ()
def PySem.W.Fast.tw16619731068620839264 : Unit := ()
def PySem.W.Fast.tw4384219356402017229 : Unit := ()
def PySem.W.Fast.tw2875724977328499099 : Unit := ()
def PySem.W.Fast.tw13744292231636272163 : Unit := ()
def PySem.W.Fast.tw17590196521536335332 : Unit := ()
def PySem.W.Fast.tw8622699402854469366 : Unit := ()
def PySem.W.Fast.tw5723476159079860079 : Unit := ()
def PySem.W.Fast.tw18205721966527102396 : Unit := ()
def PySem.W.Fast.tw14678943786356421948 : Unit := ()
def PySem.W.Fast.tw178982042099537163 : Unit := ()
def PySem.W.Fast.tw1099918578628675820 : Unit := ()
def PySem.W.Fast.tw4780647409714462502 : Unit := ()
def PySem.W.Fast.tw1952406642789878711 : Unit := ()
def PySem.W.Fast.tw13797646191491285992 : Unit := ()
def PySem.W.Fast.tw4142209100229140859 : Unit := ()
def PySem.W.Fast.tw15097123125783878531 : Unit := ()
def PySem.W.Fast.tw10223898402276761379 : Unit := ()
def PySem.W.Fast.tw14196385902569759983 : Unit := ()
def PySem.W.Fast.tw1310944521214732992 : Unit := ()
def PySem.W.Fast.tw4529759306923343198 : Unit := ()
def PySem.W.Fast.tw4154566356625164522 : Unit := ()
def PySem.W.Fast.tw705470853714331063 : Unit := ()
def PySem.W.Fast.tw7920697967433902851 : Unit := ()
def PySem.W.Fast.tw3116142745294760271 : Unit := ()
def PySem.W.Fast.tw12509177155966099375 : Unit := ()
def PySem.W.Fast.tw2416765905656111502 : Unit := ()
def PySem.W.Fast.tw457389641662401290 : Unit := ()
def PySem.W.Fast.tw17829434514381053950 : Unit := ()
def PySem.W.Fast.tw1180504863943622396 : Unit := ()
def PySem.W.Fast.tw10794316228461398450 : Unit := ()
def PySem.W.Fast.tw15629952510504497247 : Unit := ()
def PySem.W.Fast.tw6871868339806680968 : Unit := ()
def PySem.W.Fast.tw917690371228188093 : Unit := ()
def PySem.W.Fast.tw8371023844593182472 : Unit := ()
def PySem.W.Fast.tw7928351937004015129 : Unit := ()
def PySem.W.Fast.tw4921153656708216350 : Unit := ()
def PySem.W.Fast.tw14808909156504927330 : Unit := ()
def PySem.W.Fast.tw2403869199736911268 : Unit := ()
def PySem.W.Fast.tw12428158363243832775 : Unit := ()
def PySem.W.Fast.tw8129399028645417746 : Unit := ()
def PySem.W.Fast.tw66635256119213503 : Unit := ()
def PySem.W.Fast.tw4439319140970448188 : Unit := ()
def PySem.W.Fast.tw3509909880615404879 : Unit := ()
def PySem.W.Fast.tw4666538515292985638 : Unit := ()
def PySem.W.Fast.tw18392752954473715759 : Unit := ()
def PySem.W.Fast.tw9538013440950420940 : Unit := ()
def PySem.W.Fast.tw2805076105184715749 : Unit := ()
def PySem.W.Fast.tw7259074068181991370 : Unit := ()
def PySem.W.Fast.tw8728042847472895959 : Unit := ()
def PySem.W.Fast.tw16947378819872066576 : Unit := ()
def PySem.W.Fast.tw6479498380439682318 : Unit := ()
def PySem.W.Fast.tw5660693792873045834 : Unit := ()
def PySem.W.Fast.tw12382470007097167742 : Unit := ()
def PySem.W.Fast.tw9325782499559507614 : Unit := ()
def PySem.W.Fast.tw12349411230219362751 : Unit := ()
def PySem.W.Fast.tw15334358736709463725 : Unit := ()
def PySem.W.Fast.tw4821846064478168208 : Unit := ()
def PySem.W.Fast.tw13865323600775035743 : Unit := ()
def PySem.W.Fast.tw1807303495852506956 : Unit := ()
def PySem.W.Fast.tw987301045722139829 : Unit := ()
def PySem.W.Fast.tw16008359073273489704 : Unit := ()
def PySem.W.Fast.tw7175993877961864270 : Unit := ()
def PySem.W.Fast.tw8892601084892991942 : Unit := ()
def PySem.W.Fast.tw11888710085139899048 : Unit := ()
def PySem.W.Fast.tw11954087425409555486 : Unit := ()
def PySem.W.Fast.tw1362719966239716679 : Unit := ()
def PySem.W.Fast.tw15219865102035514327 : Unit := ()
def PySem.W.Fast.tw15541945976379410618 : Unit := ()
def PySem.W.Fast.tw264932986702033461 : Unit := ()
def PySem.W.Fast.tw8337472622827610452 : Unit := ()
def PySem.W.Fast.tw8037477494494637487 : Unit := ()
def PySem.W.Fast.tw13864475334247403922 : Unit := ()
def PySem.W.Fast.tw416199725167544944 : Unit := ()
def PySem.W.Fast.tw971717645962512615 : Unit := ()
def PySem.W.Fast.tw11592902740619675445 : Unit := ()
def PySem.W.Fast.tw14179244583298268729 : Unit := ()
def PySem.W.Fast.tw12760007444722054817 : Unit := ()
def PySem.W.Fast.tw12209093929937474548 : Unit := ()
def PySem.W.Fast.tw9867714693123648676 : Unit := ()
def PySem.W.Fast.tw4260957879368936235 : Unit := ()
def PySem.W.Fast.tw15598971560963370389 : Unit := ()
def PySem.W.Fast.tw8917917961894373751 : Unit := ()
def PySem.W.Fast.tw12460080407810076477 : Unit := ()
def PySem.W.Fast.tw9052937418870083693 : Unit := ()
def PySem.W.Fast.tw13141224326027532124 : Unit := ()
def PySem.W.Fast.tw7865408815302691273 : Unit := ()
def PySem.W.Fast.tw4938231688903256454 : Unit := ()
def PySem.W.Fast.tw9302633422176391920 : Unit := ()
def PySem.W.Fast.tw15132458516325018785 : Unit := ()
def PySem.W.Fast.tw11736338228926984083 : Unit := ()
def PySem.W.Fast.tw10095648818634518890 : Unit := ()
def PySem.W.Fast.tw15275291021854500544 : Unit := ()
def PySem.W.Fast.tw9486393398322771287 : Unit := ()
def PySem.W.Fast.tw5527305045725839897 : Unit := ()
def PySem.W.Fast.tw14028423401847578986 : Unit := ()
def PySem.W.Fast.tw7410891785012097005 : Unit := ()
def PySem.W.Fast.tw3244086316793181374 : Unit := ()
def PySem.W.Fast.tw10321690164698994850 : Unit := ()
def PySem.W.Fast.tw7972597371183930068 : Unit := ()
def PySem.W.Fast.tw6154823086004874393 : Unit := ()
def PySem.W.Fast.tw13587151598080963022 : Unit := ()
def PySem.W.Fast.tw18215293855667816671 : Unit := ()
def PySem.W.Fast.tw280917380089993231 : Unit := ()
def PySem.W.Fast.tw854247580281644437 : Unit := ()
def PySem.W.Fast.tw7465330668074409919 : Unit := ()
def PySem.W.Fast.tw15709406588529926149 : Unit := ()
def PySem.W.Fast.tw6677843147175625621 : Unit := ()
def PySem.W.Fast.tw5711620825125641002 : Unit := ()
def PySem.W.Fast.tw3106019142764824439 : Unit := ()
def PySem.W.Fast.tw12266775087360158831 : Unit := ()
def PySem.W.Fast.tw2886075108996040433 : Unit := ()
def PySem.W.Fast.tw9289785034321846288 : Unit := ()
def PySem.W.Fast.tw664398029645352804 : Unit := ()
def PySem.W.Fast.tw10412490514206232093 : Unit := ()
def PySem.W.Fast.tw1488040442021784004 : Unit := ()
def PySem.W.Fast.tw10982607960206986724 : Unit := ()
def PySem.W.Fast.tw6010092931893058622 : Unit := ()
def PySem.W.Fast.tw14739061395040367012 : Unit := ()
def PySem.W.Fast.tw5771433454967703170 : Unit := ()
def PySem.W.Fast.tw15324658498815530130 : Unit := ()
def PySem.W.Fast.tw7597207336037581707 : Unit := ()
def PySem.W.Fast.tw15069464655358999481 : Unit := ()
def PySem.W.Fast.tw17843931727820963302 : Unit := ()
def PySem.W.Fast.tw10931757524730887808 : Unit := ()
def PySem.W.Fast.tw4738809144493168741 : Unit := ()
def PySem.W.Fast.tw5684269996591040895 : Unit := ()
def PySem.W.Fast.tw18191872463588725041 : Unit := ()
def PySem.W.Fast.tw8052244275606854038 : Unit := ()
def PySem.W.Fast.tw17606023666067251677 : Unit := ()
def PySem.W.Fast.tw11284616107681220019 : Unit := ()
def PySem.W.Fast.tw14925215786284635946 : Unit := ()
def PySem.W.Fast.tw15536608767410316090 : Unit := ()
def PySem.W.Fast.tw2042730919218753758 : Unit := ()
def PySem.W.Fast.tw8549567097830819671 : Unit := ()
def PySem.W.Fast.tw9904465844462339222 : Unit := ()
def PySem.W.Fast.tw16439854720029058571 : Unit := ()
def PySem.W.Fast.tw229164427083005643 : Unit := ()
def PySem.W.Fast.tw5125736828524598441 : Unit := ()
def PySem.W.Fast.tw2323540548168759778 : Unit := ()
def PySem.W.Fast.tw7240865930546916724 : Unit := ()
def PySem.W.Fast.tw10474955418446329604 : Unit := ()
def PySem.W.Fast.tw18168846237328670995 : Unit := ()
def PySem.W.Fast.tw14133788633963359269 : Unit := ()
def PySem.W.Fast.tw1286537293598278779 : Unit := ()
def PySem.W.Fast.tw8174326144747286996 : Unit := ()
def PySem.W.Fast.tw8169806428440432713 : Unit := ()
def PySem.W.Fast.tw5407970635648715744 : Unit := ()
def PySem.W.Fast.tw16430232756884227355 : Unit := ()
def PySem.W.Fast.tw3851963775282488551 : Unit := ()
def PySem.W.Fast.tw3065219299181827589 : Unit := ()
def PySem.W.Fast.tw9546706846438436538 : Unit := ()
def PySem.W.Fast.tw4295534447537059203 : Unit := ()
def PySem.W.Fast.tw7757449499910696437 : Unit := ()
def PySem.W.Fast.tw7723211159200377822 : Unit := ()
def PySem.W.Fast.tw13705001845696326735 : Unit := ()
def PySem.W.Fast.tw15063340032272140987 : Unit := ()
def PySem.W.Fast.tw9493307185956880263 : Unit := ()
def PySem.W.Fast.tw1713909409736274294 : Unit := ()
def PySem.W.Fast.tw15757054237691784606 : Unit := ()
def PySem.W.Fast.tw6964298268145473253 : Unit := ()
def PySem.W.Fast.tw14019881755177166336 : Unit := ()
def PySem.W.Fast.tw8023364242772225894 : Unit := ()
def PySem.W.Fast.tw10600413367226739535 : Unit := ()
def PySem.W.Fast.tw4448357762423991657 : Unit := ()
def PySem.W.Fast.tw13845010673617018999 : Unit := ()
def PySem.W.Fast.tw13359257691425115219 : Unit := ()
def PySem.W.Fast.tw14814267008950123050 : Unit := ()
def PySem.W.Fast.tw17026682123665591243 : Unit := ()
def PySem.W.Fast.tw1553595786076442722 : Unit := ()
def PySem.W.Fast.tw3274555792734442164 : Unit := ()
def PySem.W.Fast.tw5167058305935922445 : Unit := ()
def PySem.W.Fast.tw16099700438911077358 : Unit := ()
def PySem.W.Fast.tw7108796968134382751 : Unit := ()
def PySem.W.Fast.tw17071660069713835940 : Unit := ()
def PySem.W.Fast.tw2169353149406203877 : Unit := ()
def PySem.W.Fast.tw10325601046913268018 : Unit := ()
def PySem.W.Fast.tw14973956641053794197 : Unit := ()
def PySem.W.Fast.tw16937879542928416138 : Unit := ()
def PySem.W.Fast.tw1711978525486605378 : Unit := ()
def PySem.W.Fast.tw11233446548474340610 : Unit := ()
def PySem.W.Fast.tw972515320050062624 : Unit := ()
def PySem.W.Fast.tw11038752745809355942 : Unit := ()
def PySem.W.Fast.tw12546471409375691253 : Unit := ()
def PySem.W.Fast.tw15932749649340748510 : Unit := ()
def PySem.W.Fast.tw4852598208274030645 : Unit := ()
def PySem.W.Fast.tw7257460582837084246 : Unit := ()
def PySem.W.Fast.tw12762875093394152760 : Unit := ()
def PySem.W.Fast.tw13406242734642179557 : Unit := ()
def PySem.W.Fast.tw12620873455715996183 : Unit := ()
def PySem.W.Fast.tw1277184138009114285 : Unit := ()
def PySem.W.Fast.tw1968528036046984671 : Unit := ()
def PySem.W.Fast.tw14950160332441906116 : Unit := ()
def PySem.W.Fast.tw6282232509659570087 : Unit := ()
def PySem.W.Fast.tw5634160328301049529 : Unit := ()
def PySem.W.Fast.tw17436347208924269582 : Unit := ()
def PySem.W.Fast.tw1035953614122953912 : Unit := ()
def PySem.W.Fast.tw8828568755207098135 : Unit := ()
def PySem.W.Fast.tw2506114495915034488 : Unit := ()
def PySem.W.Fast.tw11550461478158961485 : Unit := ()
def PySem.W.Fast.tw6495368838606455238 : Unit := ()
def PySem.W.Fast.tw18093534095739291932 : Unit := ()
def PySem.W.Fast.tw12937448621739472725 : Unit := ()
def PySem.W.Fast.tw4506140285710116626 : Unit := ()
def PySem.W.Fast.tw1745904855532632988 : Unit := ()
def PySem.W.Fast.tw9692319085095946327 : Unit := ()
def PySem.W.Fast.tw9863125073875416535 : Unit := ()
def PySem.W.Fast.tw7777950181485318433 : Unit := ()
def PySem.W.Fast.tw9306511735689505906 : Unit := ()
def PySem.W.Fast.tw2495115493620250326 : Unit := ()
def PySem.W.Fast.tw2658320155848399670 : Unit := ()
def PySem.W.Fast.tw5176576539398594111 : Unit := ()
def PySem.W.Fast.tw16149786695300917758 : Unit := ()
def PySem.W.Fast.tw8284440405640956358 : Unit := ()
def PySem.W.Fast.tw951490108651459375 : Unit := ()
def PySem.W.Fast.tw12776183809647256387 : Unit := ()
def PySem.W.Fast.tw10936866684095244136 : Unit := ()
def PySem.W.Fast.tw4287531850137106228 : Unit := ()
def PySem.W.Fast.tw627528348114124221 : Unit := ()
def PySem.W.Fast.tw3361968632180701959 : Unit := ()
def PySem.W.Fast.tw16061995869074892340 : Unit := ()
def PySem.W.Fast.tw9615284947313788211 : Unit := ()
def PySem.W.Fast.tw18430476961869974472 : Unit := ()
def PySem.W.Fast.tw4885688941381972832 : Unit := ()
def PySem.W.Fast.tw5313071310948600622 : Unit := ()
def PySem.W.Fast.tw15802509698472376305 : Unit := ()
def PySem.W.Fast.tw4199372384724522399 : Unit := ()
def PySem.W.Fast.tw7120401597724991248 : Unit := ()
def PySem.W.Fast.tw5927503464811193556 : Unit := ()
def PySem.W.Fast.tw18425444933858846725 : Unit := ()
def PySem.W.Fast.tw16280658162054754363 : Unit := ()
def PySem.W.Fast.tw6830661539357928910 : Unit := ()
def PySem.W.Fast.tw10772888853195510384 : Unit := ()
def PySem.W.Fast.tw6604094787440423244 : Unit := ()
def PySem.W.Fast.tw4670614919966055157 : Unit := ()
def PySem.W.Fast.tw7639169818455392173 : Unit := ()
def PySem.W.Fast.tw6283245643677562364 : Unit := ()
def PySem.W.Fast.tw9008160628827913882 : Unit := ()
def PySem.W.Fast.tw5375795454780890445 : Unit := ()
def PySem.W.Fast.tw7500099963899442251 : Unit := ()
def PySem.W.Fast.tw8831155922039959720 : Unit := ()
def PySem.W.Fast.tw16458534088629783329 : Unit := ()
def PySem.W.Fast.tw13479094257300962248 : Unit := ()
def PySem.W.Fast.tw9780540709794827781 : Unit := ()
def PySem.W.Fast.tw17499200519749734940 : Unit := ()
def PySem.W.Fast.tw2305414408130554292 : Unit := ()
def PySem.W.Fast.tw3507825891438377585 : Unit := ()
def PySem.W.Fast.tw14853348098675926688 : Unit := ()
def PySem.W.Fast.tw6901996201401580103 : Unit := ()
def PySem.W.Fast.tw10214798723161860908 : Unit := ()
def PySem.W.Fast.tw7053154686396812528 : Unit := ()
def PySem.W.Fast.tw11163739012320327313 : Unit := ()
def PySem.W.Fast.tw4038046598495731775 : Unit := ()
def PySem.W.Fast.tw4607664621782217103 : Unit := ()
def PySem.W.Fast.tw13084661642996705785 : Unit := ()
def PySem.W.Fast.tw4209513143971477052 : Unit := ()
def PySem.W.Fast.tw16549743009188526336 : Unit := ()
def PySem.W.Fast.tw10358149463496502979 : Unit := ()
def PySem.W.Fast.tw17266126674581957551 : Unit := ()
def PySem.W.Fast.tw5607698405151115213 : Unit := ()
def PySem.W.Fast.tw10215653194048460750 : Unit := ()
def PySem.W.Fast.tw17791770857037177258 : Unit := ()
def PySem.W.Fast.tw5496849259710009554 : Unit := ()
def PySem.W.Fast.tw4338949390525040424 : Unit := ()
def PySem.W.Fast.tw10958507122237075249 : Unit := ()
def PySem.W.Fast.tw8657700821688725225 : Unit := ()
def PySem.W.Fast.tw9273158396140273503 : Unit := ()
def PySem.W.Fast.tw3870338753099455017 : Unit := ()
def PySem.W.Fast.tw17834466428005793381 : Unit := ()
def PySem.W.Fast.tw17033773727609420563 : Unit := ()
def PySem.W.Fast.tw397874981408353402 : Unit := ()
def PySem.W.Fast.tw1627124742148370365 : Unit := ()
def PySem.W.Fast.tw1583927671440358471 : Unit := ()
def PySem.W.Fast.tw8822426999631765252 : Unit := ()
def PySem.W.Fast.tw6723712322338870927 : Unit := ()
def PySem.W.Fast.tw8161656369779717402 : Unit := ()
def PySem.W.Fast.tw17521337959378179880 : Unit := ()
def PySem.W.Fast.tw2900759804662662550 : Unit := ()
def PySem.W.Fast.tw17642196800702610994 : Unit := ()
def PySem.W.Fast.tw5131516235789969819 : Unit := ()
def PySem.W.Fast.tw2361496342566212426 : Unit := ()
def PySem.W.Fast.tw17718934823960014828 : Unit := ()
def PySem.W.Fast.tw7928000948651835905 : Unit := ()
def PySem.W.Fast.tw7993352594822775416 : Unit := ()
def PySem.W.Fast.tw1464999790828575500 : Unit := ()
def PySem.W.Fast.tw355104817263740851 : Unit := ()
def PySem.W.Fast.tw2789366408237562005 : Unit := ()
def PySem.W.Fast.tw4534658132904025054 : Unit := ()
def PySem.W.Fast.tw5248363676389156062 : Unit := ()
def PySem.W.Fast.tw4300812332820702760 : Unit := ()
def PySem.W.Fast.tw1658951442507406953 : Unit := ()
def PySem.W.Fast.tw15702770122750349464 : Unit := ()
def PySem.W.Fast.tw18081126092374225324 : Unit := ()
def PySem.W.Fast.tw7556384842101924317 : Unit := ()
def PySem.W.Fast.tw3494157933751787943 : Unit := ()
def PySem.W.Fast.tw12699525408987719392 : Unit := ()
def PySem.W.Fast.tw5169156616507760408 : Unit := ()
def PySem.W.Fast.tw15868113528992853466 : Unit := ()
def PySem.W.Fast.tw6771355997106205658 : Unit := ()
def PySem.W.Fast.tw3929716308415612584 : Unit := ()
def PySem.W.Fast.tw16537210909293163114 : Unit := ()
def PySem.W.Fast.tw13622848540026110595 : Unit := ()
def PySem.W.Fast.tw4549447344703680948 : Unit := ()
def PySem.W.Fast.tw8586721762622732767 : Unit := ()
def PySem.W.Fast.tw11651600285772470155 : Unit := ()
def PySem.W.Fast.tw9980307974816452799 : Unit := ()
def PySem.W.Fast.tw3627852066842024612 : Unit := ()
def PySem.W.Fast.tw11225565674893455675 : Unit := ()
def PySem.W.Fast.tw10812793889365473216 : Unit := ()
def PySem.W.Fast.tw13735283127264966035 : Unit := ()
def PySem.W.Fast.tw13571268590729069685 : Unit := ()
def PySem.W.Fast.tw15116522159305050132 : Unit := ()
def PySem.W.Fast.tw329941283463616030 : Unit := ()
def PySem.W.Fast.tw889181279034092453 : Unit := ()
def PySem.W.Fast.tw621824258390432152 : Unit := ()
def PySem.W.Fast.tw13363871046079368964 : Unit := ()
def PySem.W.Fast.tw18114667055027709512 : Unit := ()
def PySem.W.Fast.tw5065591819665991627 : Unit := ()
def PySem.W.Fast.tw13274997305513706577 : Unit := ()
def PySem.W.Fast.tw4905194841988867268 : Unit := ()
def PySem.W.Fast.tw4295227981214676045 : Unit := ()
def PySem.W.Fast.tw17484971600754064407 : Unit := ()
def PySem.W.Fast.tw15291024708798401721 : Unit := ()
def PySem.W.Fast.tw9553631526602823048 : Unit := ()
def PySem.W.Fast.tw4479898949262515696 : Unit := ()
def PySem.W.Fast.tw7231104519341178198 : Unit := ()
def PySem.W.Fast.tw6430397310068524805 : Unit := ()
def PySem.W.Fast.tw10674973256528402420 : Unit := ()
def PySem.W.Fast.tw16734720296452677123 : Unit := ()
def PySem.W.Fast.tw8894104845275685288 : Unit := ()
def PySem.W.Fast.tw16024492617791385187 : Unit := ()
def PySem.W.Fast.tw15070367684371235388 : Unit := ()
def PySem.W.Fast.tw11518781391428005469 : Unit := ()
def PySem.W.Fast.tw3451930472288970675 : Unit := ()
def PySem.W.Fast.tw5132085371591433678 : Unit := ()
def PySem.W.Fast.tw14865148556353764299 : Unit := ()
def PySem.W.Fast.tw13049043944605299518 : Unit := ()
def PySem.W.Fast.tw13406377419850843074 : Unit := ()
def PySem.W.Fast.tw10177169900475844342 : Unit := ()
def PySem.W.Fast.tw2376611553592684631 : Unit := ()
def PySem.W.Fast.tw11395501226859585952 : Unit := ()
def PySem.W.Fast.tw14455545822193828066 : Unit := ()
def PySem.W.Fast.tw17602763723307633555 : Unit := ()
def PySem.W.Fast.tw16288130148447953894 : Unit := ()
def PySem.W.Fast.tw16958584882072311536 : Unit := ()
def PySem.W.Fast.tw8479686402777554851 : Unit := ()
def PySem.W.Fast.tw1256098480902502473 : Unit := ()
def PySem.W.Fast.tw3673916228995581342 : Unit := ()
def PySem.W.Fast.tw10254530241529151675 : Unit := ()
def PySem.W.Fast.tw1310146486951164573 : Unit := ()
def PySem.W.Fast.tw12594988378385778876 : Unit := ()
def PySem.W.Fast.tw11719073727686232960 : Unit := ()
def PySem.W.Fast.tw986278823301348609 : Unit := ()
def PySem.W.Fast.tw9483934198085756240 : Unit := ()
def PySem.W.Fast.tw5086556237032957090 : Unit := ()
def PySem.W.Fast.tw15037808851942856207 : Unit := ()
def PySem.W.Fast.tw6164711210335018796 : Unit := ()
def PySem.W.Fast.tw4078783641558376337 : Unit := ()
def PySem.W.Fast.tw14820581166966647791 : Unit := ()
def PySem.W.Fast.tw8574918690776348908 : Unit := ()
def PySem.W.Fast.tw5285976874307308294 : Unit := ()
def PySem.W.Fast.tw1658382015597488694 : Unit := ()
def PySem.W.Fast.tw282425565180067768 : Unit := ()
def PySem.W.Fast.tw5206261509915126563 : Unit := ()
def PySem.W.Fast.tw17160561501233854679 : Unit := ()
def PySem.W.Fast.tw10843496491113009530 : Unit := ()
def PySem.W.Fast.tw1158958879805036595 : Unit := ()
def PySem.W.Fast.tw13200386543297788371 : Unit := ()
def PySem.W.Fast.tw4287714661488782239 : Unit := ()
def PySem.W.Fast.tw12664597984708267013 : Unit := ()
def PySem.W.Fast.tw15234264132796209951 : Unit := ()
def PySem.W.Fast.tw10111663551875664709 : Unit := ()
def PySem.W.Fast.tw12765443698636745519 : Unit := ()
def PySem.W.Fast.tw17758090012985419370 : Unit := ()
def PySem.W.Fast.tw5105410398035541647 : Unit := ()
def PySem.W.Fast.tw3079139606121575636 : Unit := ()
def PySem.W.Fast.tw16011428029765260039 : Unit := ()
def PySem.W.Fast.tw7927661951936860790 : Unit := ()
def PySem.W.Fast.tw7266279999226197377 : Unit := ()
def PySem.W.Fast.tw11883748976470281568 : Unit := ()
def PySem.W.Fast.tw6910399968666045255 : Unit := ()
def PySem.W.Fast.tw1886142198274157871 : Unit := ()
def PySem.W.Fast.tw17228897843216878306 : Unit := ()
def PySem.W.Fast.tw449258236543025065 : Unit := ()
def PySem.W.Fast.tw12267637034586444168 : Unit := ()
def PySem.W.Fast.tw7772153672920534736 : Unit := ()
def PySem.W.Fast.tw871667364710518783 : Unit := ()
def PySem.W.Fast.tw12744582225734075806 : Unit := ()
def PySem.W.Fast.tw17755456524704518848 : Unit := ()
def PySem.W.Fast.tw17558672424072788113 : Unit := ()
def PySem.W.Fast.tw3681936747345741187 : Unit := ()
def PySem.W.Fast.tw15716297261507499535 : Unit := ()
def PySem.W.Fast.tw1395962809761881461 : Unit := ()
def PySem.W.Fast.tw10283138395194639038 : Unit := ()
def PySem.W.Fast.tw12158318874351436921 : Unit := ()
def PySem.W.Fast.tw1975494729534357219 : Unit := ()
def PySem.W.Fast.tw3191071255221848172 : Unit := ()
def PySem.W.Fast.tw16100691501515759841 : Unit := ()
def PySem.W.Fast.tw15813021780557525363 : Unit := ()
def PySem.W.Fast.tw2856214414015684678 : Unit := ()
def PySem.W.Fast.tw11334784238850759136 : Unit := ()
def PySem.W.Fast.tw9196854541321204718 : Unit := ()
def PySem.W.Fast.tw8364913853820886051 : Unit := ()
def PySem.W.Fast.tw6505400148883583384 : Unit := ()
def PySem.W.Fast.tw9107843584040042292 : Unit := ()
def PySem.W.Fast.tw10974456367462063436 : Unit := ()
def PySem.W.Fast.tw9625324600400478904 : Unit := ()
def PySem.W.Fast.tw5164215015781942341 : Unit := ()
def PySem.W.Fast.tw6845413283916081801 : Unit := ()
def PySem.W.Fast.tw9915424983033767989 : Unit := ()
def PySem.W.Fast.tw11856988165776242773 : Unit := ()
def PySem.W.Fast.tw6480608015229326106 : Unit := ()
def PySem.W.Fast.tw13547367650686939507 : Unit := ()
def PySem.W.Fast.tw18070617111639710692 : Unit := ()
def PySem.W.Fast.tw6429771649973162960 : Unit := ()
def PySem.W.Fast.tw8969216587464564772 : Unit := ()
def PySem.W.Fast.tw6989117043657802206 : Unit := ()
def PySem.W.Fast.tw17880168534084667868 : Unit := ()
def PySem.W.Fast.tw54319143688515733 : Unit := ()
def PySem.W.Fast.tw11841355829894869021 : Unit := ()
def PySem.W.Fast.tw768862023291137818 : Unit := ()
def PySem.W.Fast.tw3904847129793340159 : Unit := ()
def PySem.W.Fast.tw3820435806616562177 : Unit := ()
def PySem.W.Fast.tw10860016986814850708 : Unit := ()
def PySem.W.Fast.tw10439036879896656213 : Unit := ()
def PySem.W.Fast.tw2250443682989827970 : Unit := ()
def PySem.W.Fast.tw12570975699059507551 : Unit := ()
def PySem.W.Fast.tw200876079012107723 : Unit := ()
def PySem.W.Fast.tw12117474829687734569 : Unit := ()
def PySem.W.Fast.tw12923147932060157617 : Unit := ()
def PySem.W.Fast.tw16436912759103217541 : Unit := ()
def PySem.W.Fast.tw5119592772111757363 : Unit := ()
def PySem.W.Fast.tw46047356163711959 : Unit := ()
def PySem.W.Fast.tw9668552074067991525 : Unit := ()
def PySem.W.Fast.tw1090689591775485030 : Unit := ()
def PySem.W.Fast.tw10721059221233511318 : Unit := ()
def PySem.W.Fast.tw4261866804343366188 : Unit := ()
def PySem.W.Fast.tw5675295018681328474 : Unit := ()
def PySem.W.Fast.tw10673173482417419163 : Unit := ()
def PySem.W.Fast.tw6189800397672023544 : Unit := ()
def PySem.W.Fast.tw8600003543474550401 : Unit := ()
def PySem.W.Fast.tw14016499722083413092 : Unit := ()
def PySem.W.Fast.tw2305028013010306195 : Unit := ()
def PySem.W.Fast.tw785687812312579603 : Unit := ()
def PySem.W.Fast.tw1164641160572602071 : Unit := ()
def PySem.W.Fast.tw2176747875506298302 : Unit := ()
def PySem.W.Fast.tw4899194941618596743 : Unit := ()
def PySem.W.Fast.tw18111853076867884516 : Unit := ()
def PySem.W.Fast.tw10851217589123586200 : Unit := ()
def PySem.W.Fast.tw6223989507603730586 : Unit := ()
def PySem.W.Fast.tw3627580296062661867 : Unit := ()
def PySem.W.Fast.tw7147032986841463339 : Unit := ()
def PySem.W.Fast.tw11387929337416504833 : Unit := ()
def PySem.W.Fast.tw12279257439511670522 : Unit := ()
def PySem.W.Fast.tw12544256817620836928 : Unit := ()
def PySem.W.Fast.tw8903757512086097044 : Unit := ()
def PySem.W.Fast.tw6583667887555694182 : Unit := ()
def PySem.W.Fast.tw13625530754347173179 : Unit := ()
def PySem.W.Fast.tw15676039818426023899 : Unit := ()
def PySem.W.Fast.tw662514624603801313 : Unit := ()
def PySem.W.Fast.tw8929427617084532050 : Unit := ()
def PySem.W.Fast.tw11081916062258291835 : Unit := ()
def PySem.W.Fast.tw10908583292746523781 : Unit := ()
def PySem.W.Fast.tw2895464141788373703 : Unit := ()
def PySem.W.Fast.tw8787369257342119190 : Unit := ()
def PySem.W.Fast.tw7276008094250217433 : Unit := ()
def PySem.W.Fast.tw9126519310905630191 : Unit := ()
def PySem.W.Fast.tw7926312261625145857 : Unit := ()
def PySem.W.Fast.tw14056023714826146903 : Unit := ()
def PySem.W.Fast.tw4934116040678700208 : Unit := ()
def PySem.W.Fast.tw16077376778456035058 : Unit := ()
def PySem.W.Fast.tw5760117238175538160 : Unit := ()
def PySem.W.Fast.tw4588070733173009051 : Unit := ()
def PySem.W.Fast.tw2286266351801072765 : Unit := ()
def PySem.W.Fast.tw17793090303980254272 : Unit := ()
def PySem.W.Fast.tw887297739250893426 : Unit := ()
def PySem.W.Fast.tw8490484478756099655 : Unit := ()
def PySem.W.Fast.tw11136464453963140639 : Unit := ()
def PySem.W.Fast.tw18331545524744905934 : Unit := ()
def PySem.W.Fast.tw4202060466875922176 : Unit := ()
def PySem.W.Fast.tw16906768235617151095 : Unit := ()
def PySem.W.Fast.tw9735313446372819911 : Unit := ()
def PySem.W.Fast.tw7051923422236005608 : Unit := ()
def PySem.W.Fast.tw3949534555466017914 : Unit := ()
def PySem.W.Fast.tw8604983957230706456 : Unit := ()
def PySem.W.Fast.tw1806912456973549536 : Unit := ()
def PySem.W.Fast.tw10538179210915043538 : Unit := ()
def PySem.W.Fast.tw16770087069513940195 : Unit := ()
def PySem.W.Fast.tw2594037167401110647 : Unit := ()
def PySem.W.Fast.tw7542435708000544768 : Unit := ()
def PySem.W.Fast.tw1179633367757178035 : Unit := ()
def PySem.W.Fast.tw11854616366305685915 : Unit := ()
def PySem.W.Fast.tw1340684671172185148 : Unit := ()
def PySem.W.Fast.tw4197613755910835498 : Unit := ()
def PySem.W.Fast.tw8125905565813277306 : Unit := ()
def PySem.W.Fast.tw13505361881074083946 : Unit := ()
def PySem.W.Fast.tw11064075171800533336 : Unit := ()
def PySem.W.Fast.tw7351761721107533599 : Unit := ()
def PySem.W.Fast.tw1677231408768103498 : Unit := ()
def PySem.W.Fast.tw2224764951876650412 : Unit := ()
def PySem.W.Fast.tw13591048310350326776 : Unit := ()
def PySem.W.Fast.tw457078660713073659 : Unit := ()
def PySem.W.Fast.tw12885981248186681338 : Unit := ()
def PySem.W.Fast.tw1695448628783176676 : Unit := ()
def PySem.W.Fast.tw6952671444476947113 : Unit := ()
def PySem.W.Fast.tw4435421394204515611 : Unit := ()
def PySem.W.Fast.tw17472811087150755858 : Unit := ()
def PySem.W.Fast.tw2020029945253560339 : Unit := ()
def PySem.W.Fast.tw1411773755910144520 : Unit := ()
def PySem.W.Fast.tw8479069092035166179 : Unit := ()
def PySem.W.Fast.tw5966552467048675640 : Unit := ()
def PySem.W.Fast.tw14522560712991715951 : Unit := ()
def PySem.W.Fast.tw8043027943769002162 : Unit := ()
def PySem.W.Fast.tw7853718676959766473 : Unit := ()
def PySem.W.Fast.tw8732384657001785355 : Unit := ()
def PySem.W.Fast.tw12292279215369614323 : Unit := ()
def PySem.W.Fast.tw17437978225849329918 : Unit := ()
def PySem.W.Fast.tw7260259844384851482 : Unit := ()
def PySem.W.Fast.tw6350149730509908268 : Unit := ()
def PySem.W.Fast.tw13020854702466632800 : Unit := ()
def PySem.W.Fast.tw15853837366616553680 : Unit := ()
def PySem.W.Fast.tw1735395003836382009 : Unit := ()
def PySem.W.Fast.tw11276176529470547647 : Unit := ()
def PySem.W.Fast.tw14478204006726108242 : Unit := ()
def PySem.W.Fast.tw14741289099931302040 : Unit := ()
def PySem.W.Fast.tw10405434455219669512 : Unit := ()
def PySem.W.Fast.tw4680136599936345271 : Unit := ()
def PySem.W.Fast.tw5741263409437251658 : Unit := ()
def PySem.W.Fast.tw15838607952813230112 : Unit := ()
def PySem.W.Fast.tw17826623284341320060 : Unit := ()
def PySem.W.Fast.tw13680725939729558880 : Unit := ()
def PySem.W.Fast.tw3807551135121213062 : Unit := ()
def PySem.W.Fast.tw8345182588942859713 : Unit := ()
def PySem.W.Fast.tw6300683209687049262 : Unit := ()
def PySem.W.Fast.tw17619550096592784164 : Unit := ()
def PySem.W.Fast.tw15806528268726575925 : Unit := ()
def PySem.W.Fast.tw11314233573744491862 : Unit := ()
def PySem.W.Fast.tw14678887713097341720 : Unit := ()
def PySem.W.Fast.tw13955224368476862882 : Unit := ()
def PySem.W.Fast.tw10897841828192010152 : Unit := ()
def PySem.W.Fast.tw8679585132457308998 : Unit := ()
def PySem.W.Fast.tw3365107070216802633 : Unit := ()
def PySem.W.Fast.tw7547148692491927654 : Unit := ()
def PySem.W.Fast.tw3389473377782568169 : Unit := ()
def PySem.W.Fast.tw4775847799223171540 : Unit := ()
def PySem.W.Fast.tw8015938337994709721 : Unit := ()
def PySem.W.Fast.tw6074109392868812374 : Unit := ()
def PySem.W.Fast.tw11610452036141022277 : Unit := ()
def PySem.W.Fast.tw4306461202568817663 : Unit := ()
def PySem.W.Fast.tw14951645310908171721 : Unit := ()
def PySem.W.Fast.tw8217608775432466977 : Unit := ()
def PySem.W.Fast.tw15235432771443754825 : Unit := ()
def PySem.W.Fast.tw10255847979540503498 : Unit := ()
def PySem.W.Fast.tw2759215227858792 : Unit := ()
def PySem.W.Fast.tw2041109742975770002 : Unit := ()
def PySem.W.Fast.tw2696227563706503283 : Unit := ()
def PySem.W.Fast.tw10843986835698864096 : Unit := ()
def PySem.W.Fast.tw1396790254627216725 : Unit := ()
def PySem.W.Fast.tw9931944895327095101 : Unit := ()
def PySem.W.Fast.tw10308165456541681715 : Unit := ()
def PySem.W.Fast.tw7143520056324069004 : Unit := ()
def PySem.W.Fast.tw15650983165834976151 : Unit := ()
def PySem.W.Fast.tw14029109048783502036 : Unit := ()
def PySem.W.Fast.tw3015425255240308799 : Unit := ()
def PySem.W.Fast.tw16132590153251456221 : Unit := ()
def PySem.W.Fast.tw945728729929846408 : Unit := ()
def PySem.W.Fast.tw16211732925270862936 : Unit := ()
def PySem.W.Fast.tw10150549092542428715 : Unit := ()
def PySem.W.Fast.tw1186011676593774846 : Unit := ()
def PySem.W.Fast.tw3827761757087915536 : Unit := ()
def PySem.W.Fast.tw1348686238360321804 : Unit := ()
def PySem.W.Fast.tw3542984721355170951 : Unit := ()
def PySem.W.Fast.tw5165848653222742276 : Unit := ()
def PySem.W.Fast.tw18090264274711557029 : Unit := ()
def PySem.W.Fast.tw7730711234585966178 : Unit := ()
def PySem.W.Fast.tw1473020252915687041 : Unit := ()
def PySem.W.Fast.tw11938172151560616342 : Unit := ()
def PySem.W.Fast.tw9383252229206473761 : Unit := ()
def PySem.W.Fast.tw17643660023018599961 : Unit := ()
def PySem.W.Fast.tw3356001509153114121 : Unit := ()
def PySem.W.Fast.tw4297738956197642882 : Unit := ()
def PySem.W.Fast.tw18124581676290672360 : Unit := ()
def PySem.W.Fast.tw9194421457380755398 : Unit := ()
def PySem.W.Fast.tw8259848542061634013 : Unit := ()
def PySem.W.Fast.tw4744403521286499667 : Unit := ()
def PySem.W.Fast.tw11666861240903158134 : Unit := ()
def PySem.W.Fast.tw3541781463879696891 : Unit := ()
def PySem.W.Fast.tw12947719026363549466 : Unit := ()
def PySem.W.Fast.tw6334204119616964465 : Unit := ()
def PySem.W.Fast.tw15150641518128501605 : Unit := ()
def PySem.W.Fast.tw10618743133412781800 : Unit := ()
def PySem.W.Fast.tw1711371862643344052 : Unit := ()
def PySem.W.Fast.tw3179049653152668619 : Unit := ()
def PySem.W.Fast.tw1901264235766753598 : Unit := ()
def PySem.W.Fast.tw14625560873407400140 : Unit := ()
def PySem.W.Fast.tw2606266575115585485 : Unit := ()
def PySem.W.Fast.tw442426154228614435 : Unit := ()
def PySem.W.Fast.tw4642255945157176958 : Unit := ()
def PySem.W.Fast.tw4974531191953752259 : Unit := ()
def PySem.W.Fast.tw16580059889774706942 : Unit := ()
def PySem.W.Fast.tw1950548660443714661 : Unit := ()
def PySem.W.Fast.tw11502723521405224942 : Unit := ()
def PySem.W.Fast.tw15066112065713757101 : Unit := ()
def PySem.W.Fast.tw104648801707901014 : Unit := ()
def PySem.W.Fast.tw12426398369217548784 : Unit := ()
def PySem.W.Fast.tw8233839104715478585 : Unit := ()
def PySem.W.Fast.tw1269250454335253504 : Unit := ()
def PySem.W.Fast.tw4381834051456522643 : Unit := ()
def PySem.W.Fast.tw17701508858381231236 : Unit := ()
def PySem.W.Fast.tw12699963426965287919 : Unit := ()
def PySem.W.Fast.tw16952672246017521922 : Unit := ()
def PySem.W.Fast.tw8948772413515650267 : Unit := ()
def PySem.W.Fast.tw4975347689552777529 : Unit := ()
def PySem.W.Fast.tw11434388955981004326 : Unit := ()
def PySem.W.Fast.tw13749014976736668074 : Unit := ()
def PySem.W.Fast.tw951994091122078441 : Unit := ()
def PySem.W.Fast.tw13278122568148244062 : Unit := ()
def PySem.W.Fast.tw6051976109287589372 : Unit := ()
def PySem.W.Fast.tw7506016440477680790 : Unit := ()
def PySem.W.Fast.tw6102031786599564913 : Unit := ()
def PySem.W.Fast.tw2195466600730450949 : Unit := ()
def PySem.W.Fast.tw6311449247597041334 : Unit := ()
def PySem.W.Fast.tw17869382584089847645 : Unit := ()
def PySem.W.Fast.tw10028248289105837299 : Unit := ()
def PySem.W.Fast.tw12530705762339774161 : Unit := ()
def PySem.W.Fast.tw14761691873820075506 : Unit := ()
def PySem.W.Fast.tw12054362962441565420 : Unit := ()
def PySem.W.Fast.tw6872789842757496876 : Unit := ()
def PySem.W.Fast.tw6375722555702927378 : Unit := ()
def PySem.W.Fast.tw18134721615603665061 : Unit := ()
def PySem.W.Fast.tw2380683370380831900 : Unit := ()
def PySem.W.Fast.tw11516011375428429360 : Unit := ()
def PySem.W.Fast.tw9259029739297239135 : Unit := ()
def PySem.W.Fast.tw448132569335216461 : Unit := ()
def PySem.W.Fast.tw3407484962881661711 : Unit := ()
def PySem.W.Fast.tw9214045550807345901 : Unit := ()
def PySem.W.Fast.tw1765523129119087622 : Unit := ()
def PySem.W.Fast.tw8446133121994151445 : Unit := ()
def PySem.W.Fast.tw13835070369596199290 : Unit := ()
def PySem.W.Fast.tw16468923359905847789 : Unit := ()
def PySem.W.Fast.tw11002120707571147929 : Unit := ()
def PySem.W.Fast.tw6762179684592462920 : Unit := ()
def PySem.W.Fast.tw2893898810643217809 : Unit := ()
def PySem.W.Fast.tw407687418254022626 : Unit := ()
def PySem.W.Fast.tw9894359318975158882 : Unit := ()
def PySem.W.Fast.tw10092494136458128665 : Unit := ()
def PySem.W.Fast.tw11638661588401026622 : Unit := ()
def PySem.W.Fast.tw6904879716082085867 : Unit := ()
def PySem.W.Fast.tw5571941122713777233 : Unit := ()
def PySem.W.Fast.tw17805662919789733617 : Unit := ()
def PySem.W.Fast.tw1815439297656432474 : Unit := ()
def PySem.W.Fast.tw15527936910349281384 : Unit := ()
def PySem.W.Fast.tw3391406489183083209 : Unit := ()
def PySem.W.Fast.tw8098664920880355925 : Unit := ()
def PySem.W.Fast.tw5403317740230940108 : Unit := ()
def PySem.W.Fast.tw6449128278215917044 : Unit := ()
def PySem.W.Fast.tw747305103253331483 : Unit := ()
def PySem.W.Fast.tw14204761386411717603 : Unit := ()
def PySem.W.Fast.tw14797863916429433284 : Unit := ()
def PySem.W.Fast.tw13526460043068840065 : Unit := ()
def PySem.W.Fast.tw13241994064123699754 : Unit := ()
def PySem.W.Fast.tw2867014007035675111 : Unit := ()
def PySem.W.Fast.tw13194190914264158832 : Unit := ()
def PySem.W.Fast.tw5523814597054763732 : Unit := ()
def PySem.W.Fast.tw16858245911775751268 : Unit := ()
def PySem.W.Fast.tw18325661018409477090 : Unit := ()
def PySem.W.Fast.tw9280187749386557298 : Unit := ()
def PySem.W.Fast.tw2455064313989286321 : Unit := ()
def PySem.W.Fast.tw15311470361507034358 : Unit := ()
def PySem.W.Fast.tw10910116569886796342 : Unit := ()
def PySem.W.Fast.tw13717034501749206946 : Unit := ()
def PySem.W.Fast.tw11121434767398974555 : Unit := ()
def PySem.W.Fast.tw2964640727653848319 : Unit := ()
def PySem.W.Fast.tw14308600377511790581 : Unit := ()
def PySem.W.Fast.tw5978080135413348840 : Unit := ()
def PySem.W.Fast.tw14174926179415627322 : Unit := ()
def PySem.W.Fast.tw6332326510096782760 : Unit := ()
def PySem.W.Fast.tw13254726875201831692 : Unit := ()
def PySem.W.Fast.tw8279892559484781205 : Unit := ()
def PySem.W.Fast.tw10156996719512802506 : Unit := ()
def PySem.W.Fast.tw15222733579145042411 : Unit := ()
def PySem.W.Fast.tw11879565108095411103 : Unit := ()
def PySem.W.Fast.tw2338438804184984878 : Unit := ()
def PySem.W.Fast.tw2408532460042181342 : Unit := ()
def PySem.W.Fast.tw891441721716939596 : Unit := ()
def PySem.W.Fast.tw2710227346256573919 : Unit := ()
def PySem.W.Fast.tw11750797483102150779 : Unit := ()
def PySem.W.Fast.tw13241236600578272084 : Unit := ()
def PySem.W.Fast.tw969288825044342703 : Unit := ()
def PySem.W.Fast.tw8621051862298792834 : Unit := ()
def PySem.W.Fast.tw690539893999619301 : Unit := ()
def PySem.W.Fast.tw12574203639920124107 : Unit := ()
def PySem.W.Fast.tw10181383815734887709 : Unit := ()
def PySem.W.Fast.tw7029968591473281830 : Unit := ()
def PySem.W.Fast.tw6043959347396011054 : Unit := ()
def PySem.W.Fast.tw6581971244765298795 : Unit := ()
def PySem.W.Fast.tw16705325789358247264 : Unit := ()
def PySem.W.Fast.tw12812496631114438287 : Unit := ()
def PySem.W.Fast.tw10852180588019624444 : Unit := ()
def PySem.W.Fast.tw4317558183611042337 : Unit := ()
def PySem.W.Fast.tw16619267235495865221 : Unit := ()
def PySem.W.Fast.tw8858587215396915740 : Unit := ()
def PySem.W.Fast.tw10656201738612077351 : Unit := ()
def PySem.W.Fast.tw11480730898725223254 : Unit := ()
def PySem.W.Fast.tw14192706110295867071 : Unit := ()
def PySem.W.Fast.tw4061216193052513852 : Unit := ()
def PySem.W.Fast.tw7724476698626901532 : Unit := ()
def PySem.W.Fast.tw4855993817490462278 : Unit := ()
def PySem.W.Fast.tw2417575348267542768 : Unit := ()
def PySem.W.Fast.tw13764138953752482590 : Unit := ()
def PySem.W.Fast.tw14439718741597049631 : Unit := ()
def PySem.W.Fast.tw4100192588162587217 : Unit := ()
def PySem.W.Fast.tw17259383105382849740 : Unit := ()
def PySem.W.Fast.tw7464973903666647704 : Unit := ()
def PySem.W.Fast.tw1116459437892459596 : Unit := ()
def PySem.W.Fast.tw9339925449180161834 : Unit := ()
def PySem.W.Fast.tw5214429711572965620 : Unit := ()
def PySem.W.Fast.tw12311460544303994412 : Unit := ()
def PySem.W.Fast.tw14709372720541033728 : Unit := ()
def PySem.W.Fast.tw7509227932087631458 : Unit := ()
def PySem.W.Fast.tw12020587989992046290 : Unit := ()
def PySem.W.Fast.tw8297687530711312936 : Unit := ()
def PySem.W.Fast.tw9723594395974361472 : Unit := ()
def PySem.W.Fast.tw10575365483156570030 : Unit := ()
def PySem.W.Fast.tw10254878408221633131 : Unit := ()
def PySem.W.Fast.tw3013385521029609502 : Unit := ()
def PySem.W.Fast.tw16684099350670163585 : Unit := ()
def PySem.W.Fast.tw10076701801029333439 : Unit := ()
def PySem.W.Fast.tw945842176039770118 : Unit := ()
def PySem.W.Fast.tw13749543031611375527 : Unit := ()
def PySem.W.Fast.tw4645940388705037939 : Unit := ()
def PySem.W.Fast.tw17448205771061294573 : Unit := ()
def PySem.W.Fast.tw14125251287930296257 : Unit := ()
def PySem.W.Fast.tw4665470973931693953 : Unit := ()
def PySem.W.Fast.tw12160025435428692662 : Unit := ()
def PySem.W.Fast.tw1806723765969005582 : Unit := ()
def PySem.W.Fast.tw6086404629550070142 : Unit := ()
def PySem.W.Fast.tw4517128708493973649 : Unit := ()
def PySem.W.Fast.tw6322024612012939160 : Unit := ()
def PySem.W.Fast.tw5731719637626353167 : Unit := ()
def PySem.W.Fast.tw971581097139013665 : Unit := ()
def PySem.W.Fast.tw10966826456635412305 : Unit := ()
def PySem.W.Fast.tw8941563568301809816 : Unit := ()
def PySem.W.Fast.tw17469460692297270104 : Unit := ()
def PySem.W.Fast.tw18417253661190730629 : Unit := ()
def PySem.W.Fast.tw9755942006361983791 : Unit := ()
def PySem.W.Fast.tw10877646445887357281 : Unit := ()
def PySem.W.Fast.tw4721729317523684269 : Unit := ()
def PySem.W.Fast.tw451328052476496244 : Unit := ()
def PySem.W.Fast.tw17230300992337976088 : Unit := ()
def PySem.W.Fast.tw2329794625582287724 : Unit := ()
def PySem.W.Fast.tw8156932348028877967 : Unit := ()
def PySem.W.Fast.tw17461740045242536273 : Unit := ()
def PySem.W.Fast.tw6266132779789821815 : Unit := ()
def PySem.W.Fast.tw3253909111948686682 : Unit := ()
def PySem.W.Fast.tw11181806343567009437 : Unit := ()
def PySem.W.Fast.tw6204510764643923141 : Unit := ()
def PySem.W.Fast.tw7760617740598208809 : Unit := ()
def PySem.W.Fast.tw7970280063559776030 : Unit := ()
def PySem.W.Fast.tw4161422337986162649 : Unit := ()
def PySem.W.Fast.tw15310363862655339030 : Unit := ()
def PySem.W.Fast.tw13169389602587208947 : Unit := ()
def PySem.W.Fast.tw17312523289201507379 : Unit := ()
def PySem.W.Fast.tw17825583083167478484 : Unit := ()
def PySem.W.Fast.tw14844845654907371251 : Unit := ()
def PySem.W.Fast.tw10547057200615259343 : Unit := ()
def PySem.W.Fast.tw15006250056167794881 : Unit := ()
def PySem.W.Fast.tw9456028522947086465 : Unit := ()
def PySem.W.Fast.tw9040558253995353078 : Unit := ()
def PySem.W.Fast.tw3194649216022023814 : Unit := ()
def PySem.W.Fast.tw3875433702465186782 : Unit := ()
def PySem.W.Fast.tw18198604521808500958 : Unit := ()
def PySem.W.Fast.tw10132570434526780337 : Unit := ()
def PySem.W.Fast.tw2259873961697373779 : Unit := ()
def PySem.W.Fast.tw17751249876512532521 : Unit := ()
def PySem.W.Fast.tw13605198225767871339 : Unit := ()
def PySem.W.Fast.tw13190091243263446174 : Unit := ()
def PySem.W.Fast.tw7482934082788235990 : Unit := ()
def PySem.W.Fast.tw9573065547249622993 : Unit := ()
def PySem.W.Fast.tw8574830927072982065 : Unit := ()
def PySem.W.Fast.tw9774059097655695755 : Unit := ()
def PySem.W.Fast.tw598563165338315254 : Unit := ()
def PySem.W.Fast.tw13734937541988061396 : Unit := ()
def PySem.W.Fast.tw6534464957661326616 : Unit := ()
def PySem.W.Fast.tw9471975957513084386 : Unit := ()
def PySem.W.Fast.tw16703057640310867332 : Unit := ()
def PySem.W.Fast.tw2861905587562536173 : Unit := ()
def PySem.W.Fast.tw1735679431075404697 : Unit := ()
def PySem.W.Fast.tw15209766931543799611 : Unit := ()
def PySem.W.Fast.tw1568078959917484304 : Unit := ()
def PySem.W.Fast.tw1653907733790117789 : Unit := ()
def PySem.W.Fast.tw18202096963648348 : Unit := ()
def PySem.W.Fast.tw12168951852219868234 : Unit := ()
def PySem.W.Fast.tw3216605706079352246 : Unit := ()
def PySem.W.Fast.tw865165453264113823 : Unit := ()
def PySem.W.Fast.tw11111163224095644718 : Unit := ()
def PySem.W.Fast.tw9095462852727241198 : Unit := ()
def PySem.W.Fast.tw16114425966573379621 : Unit := ()
def PySem.W.Fast.tw9742970685444172886 : Unit := ()
def PySem.W.Fast.tw3676293160133801471 : Unit := ()
def PySem.W.Fast.tw13574988865276030828 : Unit := ()
def PySem.W.Fast.tw16080799415587599191 : Unit := ()
def PySem.W.Fast.tw2885690892925829340 : Unit := ()
def PySem.W.Fast.tw17633880627288128383 : Unit := ()
def PySem.W.Fast.tw16251199134931160112 : Unit := ()
def PySem.W.Fast.tw10335122485639163527 : Unit := ()
def PySem.W.Fast.tw1805845737943647253 : Unit := ()
def PySem.W.Fast.tw11076635329104926216 : Unit := ()
def PySem.W.Fast.tw1765020489040221299 : Unit := ()
def PySem.W.Fast.tw13650441242932500732 : Unit := ()
def PySem.W.Fast.tw11869538517002013405 : Unit := ()
def PySem.W.Fast.tw10903106782635241602 : Unit := ()
def PySem.W.Fast.tw11287501308173650 : Unit := ()
def PySem.W.Fast.tw1988799006412862453 : Unit := ()
def PySem.W.Fast.tw3035847785700592494 : Unit := ()
def PySem.W.Fast.tw13097319391926549752 : Unit := ()
def PySem.W.Fast.tw10968801011373222770 : Unit := ()
def PySem.W.Fast.tw1865119390451273526 : Unit := ()
def PySem.W.Fast.tw10591221455106168046 : Unit := ()
def PySem.W.Fast.tw3916806981946099878 : Unit := ()
def PySem.W.Fast.tw16372197721825020244 : Unit := ()
def PySem.W.Fast.tw13278636317747329909 : Unit := ()
def PySem.W.Fast.tw14400045635667631066 : Unit := ()
def PySem.W.Fast.tw269370726342824818 : Unit := ()
def PySem.W.Fast.tw490058819988628367 : Unit := ()
def PySem.W.Fast.tw15967763439544321217 : Unit := ()
def PySem.W.Fast.tw2379446126060486062 : Unit := ()
def PySem.W.Fast.tw14848642603632901190 : Unit := ()
def PySem.W.Fast.tw12997944504462753307 : Unit := ()
def PySem.W.Fast.tw7849015676453855939 : Unit := ()
def PySem.W.Fast.tw13803779895275973665 : Unit := ()
def PySem.W.Fast.tw14910613300190220630 : Unit := ()
def PySem.W.Fast.tw9920797851389475240 : Unit := ()
def PySem.W.Fast.tw13544455664287758581 : Unit := ()
def PySem.W.Fast.tw15839893904954334702 : Unit := ()
def PySem.W.Fast.tw13670677608567766546 : Unit := ()
def PySem.W.Fast.tw4019536504594846887 : Unit := ()
def PySem.W.Fast.tw8562973070931587703 : Unit := ()
def PySem.W.Fast.tw7803841389314116483 : Unit := ()
def PySem.W.Fast.tw6093766905662702205 : Unit := ()
def PySem.W.Fast.tw14581286250014167611 : Unit := ()
def PySem.W.Fast.tw14265761903250149230 : Unit := ()
def PySem.W.Fast.tw13669282708374286953 : Unit := ()
def PySem.W.Fast.tw9911597686608685926 : Unit := ()
def PySem.W.Fast.tw9229122167030761583 : Unit := ()
def PySem.W.Fast.tw10852870341137881459 : Unit := ()
def PySem.W.Fast.tw6902112737364599210 : Unit := ()
def PySem.W.Fast.tw14018458632884361771 : Unit := ()
def PySem.W.Fast.tw15269037066893585270 : Unit := ()
def PySem.W.Fast.tw3959335149004736340 : Unit := ()
def PySem.W.Fast.tw2255770438638334868 : Unit := ()
def PySem.W.Fast.tw17537027142021205455 : Unit := ()
def PySem.W.Fast.tw13487321009054303282 : Unit := ()
def PySem.W.Fast.tw326267294548040245 : Unit := ()
def PySem.W.Fast.tw1922690470704118765 : Unit := ()
def PySem.W.Fast.tw1852895219884940193 : Unit := ()
def PySem.W.Fast.tw7662339549948040827 : Unit := ()
def PySem.W.Fast.tw7472109592618569221 : Unit := ()
def PySem.W.Fast.tw3552908627379171134 : Unit := ()
def PySem.W.Fast.tw2711973275048833399 : Unit := ()
def PySem.W.Fast.tw6845741732454156280 : Unit := ()
def PySem.W.Fast.tw14585651385122320357 : Unit := ()
def PySem.W.Fast.tw11982224910624744456 : Unit := ()
def PySem.W.Fast.tw16386447591498720866 : Unit := ()
def PySem.W.Fast.tw5881014766926593544 : Unit := ()
def PySem.W.Fast.tw17557563313215943793 : Unit := ()
def PySem.W.Fast.tw7511281749610940417 : Unit := ()
def PySem.W.Fast.tw13331322902750872934 : Unit := ()
def PySem.W.Fast.tw13655053973566111657 : Unit := ()
def PySem.W.Fast.tw11972211112565156383 : Unit := ()
def PySem.W.Fast.tw6945233888094256886 : Unit := ()
def PySem.W.Fast.tw1562763645117449639 : Unit := ()
def PySem.W.Fast.tw11896112035184047979 : Unit := ()
def PySem.W.Fast.tw15771277078112728817 : Unit := ()
def PySem.W.Fast.tw2045580347256875563 : Unit := ()
def PySem.W.Fast.tw840376765273258132 : Unit := ()
def PySem.W.Fast.tw9849869762977856838 : Unit := ()
def PySem.W.Fast.tw15138470791026877375 : Unit := ()
def PySem.W.Fast.tw5102948632560350394 : Unit := ()
def PySem.W.Fast.tw10016285971185400693 : Unit := ()
def PySem.W.Fast.tw10199516246456379100 : Unit := ()
def PySem.W.Fast.tw2667043142557246636 : Unit := ()
def PySem.W.Fast.tw14976707299857747702 : Unit := ()
def PySem.W.Fast.tw295624077127882442 : Unit := ()
def PySem.W.Fast.tw14748416337296901006 : Unit := ()
def PySem.W.Fast.tw14775220209272433345 : Unit := ()
def PySem.W.Fast.tw17902025427691342239 : Unit := ()
def PySem.W.Fast.tw7721744062398375662 : Unit := ()
def PySem.W.Fast.tw2429014155710782896 : Unit := ()
def PySem.W.Fast.tw1724660966934998414 : Unit := ()
def PySem.W.Fast.tw4572877059309715599 : Unit := ()
def PySem.W.Fast.tw10154100198183459062 : Unit := ()
def PySem.W.Fast.tw13443584915798539018 : Unit := ()
def PySem.W.Fast.tw1432491285317420820 : Unit := ()
def PySem.W.Fast.tw574433943122296836 : Unit := ()
def PySem.W.Fast.tw10427181220499172205 : Unit := ()
def PySem.W.Fast.tw15328565767983162847 : Unit := ()
def PySem.W.Fast.tw12617302772159860918 : Unit := ()
def PySem.W.Fast.tw12586362259594132256 : Unit := ()
def PySem.W.Fast.tw7387829919991485925 : Unit := ()
def PySem.W.Fast.tw9091096368081409181 : Unit := ()
def PySem.W.Fast.tw7088009397052362597 : Unit := ()
def PySem.W.Fast.tw3192783686379441939 : Unit := ()
def PySem.W.Fast.tw16580076027031568908 : Unit := ()
def PySem.W.Fast.tw220475691933634745 : Unit := ()
def PySem.W.Fast.tw1396268111144954227 : Unit := ()
def PySem.W.Fast.tw15464270588779422128 : Unit := ()
def PySem.W.Fast.tw14237630455663317842 : Unit := ()
def PySem.W.Fast.tw16568970308637319883 : Unit := ()
def PySem.W.Fast.tw11375503733380603188 : Unit := ()
def PySem.W.Fast.tw10485705919909964347 : Unit := ()
def PySem.W.Fast.tw17890442701545710013 : Unit := ()
def PySem.W.Fast.tw13192593203697643614 : Unit := ()
def PySem.W.Fast.tw17282282480888754619 : Unit := ()
def PySem.W.Fast.tw2935169645234900343 : Unit := ()
def PySem.W.Fast.tw7103901088158463082 : Unit := ()
def PySem.W.Fast.tw11895137114770202065 : Unit := ()
def PySem.W.Fast.tw266417322512704989 : Unit := ()
def PySem.W.Fast.tw2593736975986928744 : Unit := ()
def PySem.W.Fast.tw5163991568007387736 : Unit := ()
def PySem.W.Fast.tw1917735166467751639 : Unit := ()
def PySem.W.Fast.tw1438086798210770541 : Unit := ()
def PySem.W.Fast.tw10133859619468971488 : Unit := ()
def PySem.W.Fast.tw2125002105524471075 : Unit := ()
def PySem.W.Fast.tw7118054607924466081 : Unit := ()
def PySem.W.Fast.tw6278461003062396457 : Unit := ()
def PySem.W.Fast.tw9046706918899111342 : Unit := ()
def PySem.W.Fast.tw2064351362795786117 : Unit := ()
def PySem.W.Fast.tw9869853352017116039 : Unit := ()
def PySem.W.Fast.tw750218472590112377 : Unit := ()
def PySem.W.Fast.tw6147835523711644360 : Unit := ()
def PySem.W.Fast.tw14180241730563858807 : Unit := ()
def PySem.W.Fast.tw2476372970258384440 : Unit := ()
def PySem.W.Fast.tw12929155090025125084 : Unit := ()
def PySem.W.Fast.tw236085659262978080 : Unit := ()
def PySem.W.Fast.tw1349793023671283 : Unit := ()
def PySem.W.Fast.tw17092438276332644688 : Unit := ()
def PySem.W.Fast.tw9075320774682361017 : Unit := ()
def PySem.W.Fast.tw7284635932349711089 : Unit := ()
def PySem.W.Fast.tw17209767557931423370 : Unit := ()
def PySem.W.Fast.tw936819479794009207 : Unit := ()
def PySem.W.Fast.tw13178684445686416211 : Unit := ()
def PySem.W.Fast.tw12070494333435192863 : Unit := ()
def PySem.W.Fast.tw283870983695387577 : Unit := ()
def PySem.W.Fast.tw6729993140109937563 : Unit := ()
def PySem.W.Fast.tw8429838158607429691 : Unit := ()
def PySem.W.Fast.tw11365410834823514358 : Unit := ()
def PySem.W.Fast.tw13498768702760283594 : Unit := ()
def PySem.W.Fast.tw8505622059829535123 : Unit := ()
def PySem.W.Fast.tw9994473156164517541 : Unit := ()
def PySem.W.Fast.tw6779765763186784698 : Unit := ()
def PySem.W.Fast.tw3556004838635982859 : Unit := ()
def PySem.W.Fast.tw17072552323307216689 : Unit := ()
def PySem.W.Fast.tw9634013954392513728 : Unit := ()
def PySem.W.Fast.tw16180966488617100007 : Unit := ()
def PySem.W.Fast.tw6831552601413182969 : Unit := ()
def PySem.W.Fast.tw11388860149516252517 : Unit := ()
def PySem.W.Fast.tw9441564580876629712 : Unit := ()
def PySem.W.Fast.tw15438028789909842369 : Unit := ()
def PySem.W.Fast.tw2894170448711426342 : Unit := ()
def PySem.W.Fast.tw14579720176117192911 : Unit := ()
def PySem.W.Fast.tw16272201073344114210 : Unit := ()
def PySem.W.Fast.tw8660282895780850862 : Unit := ()
def PySem.W.Fast.tw13260601036770759365 : Unit := ()
def PySem.W.Fast.tw16722901843121052530 : Unit := ()
def PySem.W.Fast.tw15551671715636350054 : Unit := ()
def PySem.W.Fast.tw12292467555009554882 : Unit := ()
def PySem.W.Fast.tw9567279123916866851 : Unit := ()
def PySem.W.Fast.tw11080818502759289489 : Unit := ()
def PySem.W.Fast.tw15762189990883437684 : Unit := ()
def PySem.W.Fast.tw11224146529913850600 : Unit := ()
def PySem.W.Fast.tw10920035306945646467 : Unit := ()
def PySem.W.Fast.tw3303125067297235306 : Unit := ()
def PySem.W.Fast.tw17875547978579138504 : Unit := ()
def PySem.W.Fast.tw6804498441273119007 : Unit := ()
def PySem.W.Fast.tw2370125772945191504 : Unit := ()
def PySem.W.Fast.tw15757607590013985732 : Unit := ()
def PySem.W.Fast.tw17917299835575972930 : Unit := ()
def PySem.W.Fast.tw16906348862499926243 : Unit := ()
def PySem.W.Fast.tw4094181765870621452 : Unit := ()
def PySem.W.Fast.tw3244556671275952920 : Unit := ()
def PySem.W.Fast.tw3297862948828858693 : Unit := ()
def PySem.W.Fast.tw6061119069040073686 : Unit := ()
def PySem.W.Fast.tw10579597554977137382 : Unit := ()
def PySem.W.Fast.tw2668100251771439831 : Unit := ()
def PySem.W.Fast.tw6655230436038652462 : Unit := ()
def PySem.W.Fast.tw4595608725209315644 : Unit := ()
def PySem.W.Fast.tw16678901842766047389 : Unit := ()
def PySem.W.Fast.tw6334810244843652179 : Unit := ()
def PySem.W.Fast.tw9347773876402395988 : Unit := ()
def PySem.W.Fast.tw18375879367799439323 : Unit := ()
def PySem.W.Fast.tw842132046498299102 : Unit := ()
def PySem.W.Fast.tw7779248424791100879 : Unit := ()
def PySem.W.Fast.tw16727318740653611567 : Unit := ()
def PySem.W.Fast.tw4328538258131886709 : Unit := ()
def PySem.W.Fast.tw7074039494965925519 : Unit := ()
def PySem.W.Fast.tw13614175701731907171 : Unit := ()
def PySem.W.Fast.tw914978868357787137 : Unit := ()
def PySem.W.Fast.tw2363475872554316851 : Unit := ()
def PySem.W.Fast.tw10926794812403192696 : Unit := ()
def PySem.W.Fast.tw8623565219393174698 : Unit := ()
def PySem.W.Fast.tw117311245943529078 : Unit := ()
def PySem.W.Fast.tw13342595474641073200 : Unit := ()
def PySem.W.Fast.tw12210958215875933223 : Unit := ()
def PySem.W.Fast.tw7816700072542752220 : Unit := ()
def PySem.W.Fast.tw9656863399950172545 : Unit := ()
def PySem.W.Fast.tw2442021597525575310 : Unit := ()
def PySem.W.Fast.tw8877179275255502649 : Unit := ()
def PySem.W.Fast.tw4729298402075385222 : Unit := ()
def PySem.W.Fast.tw4839841035216830994 : Unit := ()
def PySem.W.Fast.tw11730204918107410174 : Unit := ()
def PySem.W.Fast.tw2620805947645513311 : Unit := ()
def PySem.W.Fast.tw5955404860930008965 : Unit := ()
def PySem.W.Fast.tw13905704508820296147 : Unit := ()
def PySem.W.Fast.tw10050442553702394170 : Unit := ()
def PySem.W.Fast.tw18052891383093549272 : Unit := ()
def PySem.W.Fast.tw738962342233504738 : Unit := ()
def PySem.W.Fast.tw11294388598530536416 : Unit := ()
def PySem.W.Fast.tw3871640935787631651 : Unit := ()
def PySem.W.Fast.tw12165281426716838037 : Unit := ()
def PySem.W.Fast.tw1212102639824214643 : Unit := ()
def PySem.W.Fast.tw2532700741530074131 : Unit := ()
def PySem.W.Fast.tw12386732941832237828 : Unit := ()
def PySem.W.Fast.tw3480950362178794079 : Unit := ()
def PySem.W.Fast.tw10974322056702743988 : Unit := ()
def PySem.W.Fast.tw3761710981017287085 : Unit := ()
def PySem.W.Fast.tw1263933662285654790 : Unit := ()
def PySem.W.Fast.tw15683599259138248222 : Unit := ()
def PySem.W.Fast.tw3976522050191846178 : Unit := ()
def PySem.W.Fast.tw16273048375121077024 : Unit := ()
def PySem.W.Fast.tw8583114499334966004 : Unit := ()
def PySem.W.Fast.tw5262828895001547340 : Unit := ()
def PySem.W.Fast.tw1828242887104783695 : Unit := ()
def PySem.W.Fast.tw5765033877622271922 : Unit := ()
def PySem.W.Fast.tw3666917790444637378 : Unit := ()
def PySem.W.Fast.tw13390177243998274176 : Unit := ()
def PySem.W.Fast.tw4908422076591600912 : Unit := ()
def PySem.W.Fast.tw10561746355929823792 : Unit := ()
def PySem.W.Fast.tw909926064061439109 : Unit := ()
def PySem.W.Fast.tw7272719576512703147 : Unit := ()
def PySem.W.Fast.tw8942331579525510640 : Unit := ()
def PySem.W.Fast.tw13536697082488969260 : Unit := ()
def PySem.W.Fast.tw18219673005166262963 : Unit := ()
def PySem.W.Fast.tw5127022315225411735 : Unit := ()
def PySem.W.Fast.tw5557064270238477050 : Unit := ()
def PySem.W.Fast.tw647695034499575799 : Unit := ()
def PySem.W.Fast.tw1163151348891157085 : Unit := ()
def PySem.W.Fast.tw3489641989499116236 : Unit := ()
def PySem.W.Fast.tw6411761212917161753 : Unit := ()
def PySem.W.Fast.tw15486796199529018258 : Unit := ()
def PySem.W.Fast.tw7565920981138742603 : Unit := ()
def PySem.W.Fast.tw3768776886860735552 : Unit := ()
def PySem.W.Fast.tw7499522549610118043 : Unit := ()
def PySem.W.Fast.tw15849494140942023875 : Unit := ()
def PySem.W.Fast.tw7955152887860929678 : Unit := ()
def PySem.W.Fast.tw2591226369968008212 : Unit := ()
def PySem.W.Fast.tw12279251808663890853 : Unit := ()
def PySem.W.Fast.tw6360962186427211742 : Unit := ()
def PySem.W.Fast.tw14034007917333084050 : Unit := ()
def PySem.W.Fast.tw6298506079611728853 : Unit := ()
def PySem.W.Fast.tw15469561042530557560 : Unit := ()
def PySem.W.Fast.tw6224229963898925124 : Unit := ()
def PySem.W.Fast.tw2954614243515740140 : Unit := ()
def PySem.W.Fast.tw3972934601791190507 : Unit := ()
def PySem.W.Fast.tw1229930810124993829 : Unit := ()
def PySem.W.Fast.tw3965791119470065270 : Unit := ()
def PySem.W.Fast.tw2448370602426848503 : Unit := ()
def PySem.W.Fast.tw4846550785586075033 : Unit := ()
def PySem.W.Fast.tw17420165058099878690 : Unit := ()
def PySem.W.Fast.tw17605677831807779889 : Unit := ()
def PySem.W.Fast.tw9156113097813270425 : Unit := ()
def PySem.W.Fast.tw5368859447383522041 : Unit := ()
def PySem.W.Fast.tw6823513602893255192 : Unit := ()
def PySem.W.Fast.tw12473762576869131932 : Unit := ()
def PySem.W.Fast.tw16507454507826421770 : Unit := ()
def PySem.W.Fast.tw7446466165086123165 : Unit := ()
def PySem.W.Fast.tw9405451822884032186 : Unit := ()
def PySem.W.Fast.tw8087558307501763976 : Unit := ()
def PySem.W.Fast.tw5904680370603414319 : Unit := ()
def PySem.W.Fast.tw9766159408453837923 : Unit := ()
def PySem.W.Fast.tw9797460103440749248 : Unit := ()
def PySem.W.Fast.tw1566252875480621919 : Unit := ()
def PySem.W.Fast.tw15040936495751280424 : Unit := ()
def PySem.W.Fast.tw10819729655044427921 : Unit := ()
def PySem.W.Fast.tw10452824278427935415 : Unit := ()
def PySem.W.Fast.tw11846956179783643170 : Unit := ()
def PySem.W.Fast.tw9878136507322495536 : Unit := ()
def PySem.W.Fast.tw14335442591911757157 : Unit := ()
def PySem.W.Fast.tw7422128600509559289 : Unit := ()
def PySem.W.Fast.tw6739545163120651944 : Unit := ()
def PySem.W.Fast.tw11810807572843088059 : Unit := ()
def PySem.W.Fast.tw17159793347414647057 : Unit := ()
def PySem.W.Fast.tw14386495998582193239 : Unit := ()
def PySem.W.Fast.tw18123879226224200039 : Unit := ()
def PySem.W.Fast.tw7881415073707414116 : Unit := ()
def PySem.W.Fast.tw112821720426385797 : Unit := ()
def PySem.W.Fast.tw7188383064407081053 : Unit := ()
def PySem.W.Fast.tw15933223329791098796 : Unit := ()
def PySem.W.Fast.tw14831417672430097188 : Unit := ()
def PySem.W.Fast.tw17436376015541107441 : Unit := ()
def PySem.W.Fast.tw16984195003147913918 : Unit := ()
def PySem.W.Fast.tw3487299436153930756 : Unit := ()
def PySem.W.Fast.tw1559311938035194314 : Unit := ()
def PySem.W.Fast.tw483194803204248374 : Unit := ()
def PySem.W.Fast.tw4195672804091675447 : Unit := ()
def PySem.W.Fast.tw16790446801558671507 : Unit := ()
def PySem.W.Fast.tw1352278273640044014 : Unit := ()
def PySem.W.Fast.tw11090048303768088870 : Unit := ()
def PySem.W.Fast.tw4618025527868058335 : Unit := ()
def PySem.W.Fast.tw2583284648349969073 : Unit := ()
def PySem.W.Fast.tw5354469562273290345 : Unit := ()
def PySem.W.Fast.tw2262798483304808556 : Unit := ()
def PySem.W.Fast.tw1746218435276623534 : Unit := ()
def PySem.W.Fast.tw5831022393276562083 : Unit := ()
def PySem.W.Fast.tw15760668399602095411 : Unit := ()
def PySem.W.Fast.tw4669708651740535096 : Unit := ()
def PySem.W.Fast.tw11956970600426018896 : Unit := ()
def PySem.W.Fast.tw176116875424376202 : Unit := ()
def PySem.W.Fast.tw11600637531010113647 : Unit := ()
def PySem.W.Fast.tw8181918800209961621 : Unit := ()
def PySem.W.Fast.tw17123391933162339951 : Unit := ()
def PySem.W.Fast.tw2927743701266994305 : Unit := ()
def PySem.W.Fast.tw7755898665775866537 : Unit := ()
def PySem.W.Fast.tw8701914372142170521 : Unit := ()
def PySem.W.Fast.tw7337066408098693048 : Unit := ()
def PySem.W.Fast.tw16867606634369501333 : Unit := ()
def PySem.W.Fast.tw16235109116225965483 : Unit := ()
def PySem.W.Fast.tw5626275522879367719 : Unit := ()
def PySem.W.Fast.tw1643534790611062279 : Unit := ()
def PySem.W.Fast.tw11616008019417084519 : Unit := ()
def PySem.W.Fast.tw6614952394365781081 : Unit := ()
def PySem.W.Fast.tw9586530580320156388 : Unit := ()
def PySem.W.Fast.tw2378146049586930611 : Unit := ()
def PySem.W.Fast.tw4747561946593275661 : Unit := ()
def PySem.W.Fast.tw15623355153918726207 : Unit := ()
def PySem.W.Fast.tw8392064620871618817 : Unit := ()
def PySem.W.Fast.tw5434082077207275784 : Unit := ()
def PySem.W.Fast.tw5895432206894933056 : Unit := ()
def PySem.W.Fast.tw2526798793024662658 : Unit := ()
def PySem.W.Fast.tw9026733245208857517 : Unit := ()
def PySem.W.Fast.tw4048899139995576714 : Unit := ()
def PySem.W.Fast.tw13483604441752260598 : Unit := ()
def PySem.W.Fast.tw18197321932815091536 : Unit := ()
def PySem.W.Fast.tw12433822493148893528 : Unit := ()
def PySem.W.Fast.tw17863404059733446684 : Unit := ()
def PySem.W.Fast.tw17719832897103726199 : Unit := ()
def PySem.W.Fast.tw17760643008093032175 : Unit := ()
def PySem.W.Fast.tw4208662517403834488 : Unit := ()
def PySem.W.Fast.tw14951217236003475940 : Unit := ()
def PySem.W.Fast.tw50055609731611287 : Unit := ()
def PySem.W.Fast.tw8987753127742587480 : Unit := ()
def PySem.W.Fast.tw2866120232591183389 : Unit := ()
def PySem.W.Fast.tw15576784651549179397 : Unit := ()
def PySem.W.Fast.tw3670773405174638581 : Unit := ()
def PySem.W.Fast.tw11230526295406434642 : Unit := ()
def PySem.W.Fast.tw12050088829047553478 : Unit := ()
def PySem.W.Fast.tw1496649397823626906 : Unit := ()
def PySem.W.Fast.tw9481932856238927206 : Unit := ()
def PySem.W.Fast.tw15931008310407734558 : Unit := ()
def PySem.W.Fast.tw3600511257289009448 : Unit := ()
def PySem.W.Fast.tw11231381542854885326 : Unit := ()
def PySem.W.Fast.tw7051390842705564186 : Unit := ()
def PySem.W.Fast.tw13680176425369991448 : Unit := ()
def PySem.W.Fast.tw7784178177106866096 : Unit := ()
def PySem.W.Fast.tw18179839074941395102 : Unit := ()
def PySem.W.Fast.tw5369280087158848684 : Unit := ()
def PySem.W.Fast.tw12012624502129308975 : Unit := ()
def PySem.W.Fast.tw12414161558882702554 : Unit := ()
def PySem.W.Fast.tw1304473860560966262 : Unit := ()
def PySem.W.Fast.tw7751365238332020153 : Unit := ()
def PySem.W.Fast.tw16050583679354009896 : Unit := ()
def PySem.W.Fast.tw2146936875351578237 : Unit := ()
def PySem.W.Fast.tw2374957390163565326 : Unit := ()
def PySem.W.Fast.tw2699686421266289142 : Unit := ()
def PySem.W.Fast.tw10557351479930030444 : Unit := ()
def PySem.W.Fast.tw12063338694597119625 : Unit := ()
def PySem.W.Fast.tw4827139280149256286 : Unit := ()
def PySem.W.Fast.tw1125453248296526011 : Unit := ()
def PySem.W.Fast.tw3164201000703379505 : Unit := ()
def PySem.W.Fast.tw6911355117019020597 : Unit := ()
def PySem.W.Fast.tw6198587988924879870 : Unit := ()
def PySem.W.Fast.tw16233710920104794210 : Unit := ()
def PySem.W.Fast.tw2180074184251216150 : Unit := ()
def PySem.W.Fast.tw15234462620972484970 : Unit := ()
def PySem.W.Fast.tw12107684218590301731 : Unit := ()
def PySem.W.Fast.tw16626696937266404503 : Unit := ()
def PySem.W.Fast.tw10945228529993206403 : Unit := ()
def PySem.W.Fast.tw13687152794160032925 : Unit := ()
def PySem.W.Fast.tw12328063851961818184 : Unit := ()
def PySem.W.Fast.tw14483349716156784467 : Unit := ()
def PySem.W.Fast.tw15727426265968974590 : Unit := ()
def PySem.W.Fast.tw16606232242346011620 : Unit := ()
def PySem.W.Fast.tw9366802169070307366 : Unit := ()
def PySem.W.Fast.tw10885393165647819176 : Unit := ()
def PySem.W.Fast.tw17780729673818338346 : Unit := ()
def PySem.W.Fast.tw10067295227928742738 : Unit := ()
def PySem.W.Fast.tw13335705896399762533 : Unit := ()
def PySem.W.Fast.tw14315820796972214697 : Unit := ()
def PySem.W.Fast.tw16940956857720159547 : Unit := ()
def PySem.W.Fast.tw18320319024192761830 : Unit := ()
def PySem.W.Fast.tw17978061609556021060 : Unit := ()
def PySem.W.Fast.tw14234339536870505024 : Unit := ()
def PySem.W.Fast.tw17482639533403790598 : Unit := ()
def PySem.W.Fast.tw16332982944463774628 : Unit := ()
def PySem.W.Fast.tw8407725705971631649 : Unit := ()
def PySem.W.Fast.tw1892690694989095666 : Unit := ()
def PySem.W.Fast.tw3931646674687150387 : Unit := ()
def PySem.W.Fast.tw13547580713308418461 : Unit := ()
def PySem.W.Fast.tw1119761579010253944 : Unit := ()
def PySem.W.Fast.tw12324436147304929520 : Unit := ()
def PySem.W.Fast.tw5458712214775249156 : Unit := ()
def PySem.W.Fast.tw646179508484263535 : Unit := ()
def PySem.W.Fast.tw15630075186442371082 : Unit := ()
def PySem.W.Fast.tw17220015495783076721 : Unit := ()
def PySem.W.Fast.tw17087546998708830477 : Unit := ()
def PySem.W.Fast.tw17415671384397068334 : Unit := ()
def PySem.W.Fast.tw3053750849978692993 : Unit := ()
def PySem.W.Fast.tw14872157451306269682 : Unit := ()
def PySem.W.Fast.tw13019220283407704467 : Unit := ()
def PySem.W.Fast.tw10031665737856739095 : Unit := ()
def PySem.W.Fast.tw6139449704366744469 : Unit := ()
def PySem.W.Fast.tw5969007393038138051 : Unit := ()
def PySem.W.Fast.tw12760953981754158071 : Unit := ()
def PySem.W.Fast.tw11007821707249290775 : Unit := ()
def PySem.W.Fast.tw8576131582279294496 : Unit := ()
def PySem.W.Fast.tw3378963661853505816 : Unit := ()
def PySem.W.Fast.tw1746271305761443856 : Unit := ()
def PySem.W.Fast.tw1535525381426185802 : Unit := ()
def PySem.W.Fast.tw13229313578723083676 : Unit := ()
def PySem.W.Fast.tw3708819431151134152 : Unit := ()
def PySem.W.Fast.tw9115618188287641671 : Unit := ()
def PySem.W.Fast.tw14632988295251708069 : Unit := ()
def PySem.W.Fast.tw11116542375257044069 : Unit := ()
def PySem.W.Fast.tw8020301582606335865 : Unit := ()
def PySem.W.Fast.tw1768314444630046795 : Unit := ()
def PySem.W.Fast.tw13622150277644952046 : Unit := ()
def PySem.W.Fast.tw5023916636826838767 : Unit := ()
def PySem.W.Fast.tw8677610383863643080 : Unit := ()
def PySem.W.Fast.tw2177459433592191662 : Unit := ()
def PySem.W.Fast.tw7169921974074120141 : Unit := ()
def PySem.W.Fast.tw850729117378016344 : Unit := ()
def PySem.W.Fast.tw14902211201670918021 : Unit := ()
def PySem.W.Fast.tw13483016464795824648 : Unit := ()
def PySem.W.Fast.tw8450508385859141532 : Unit := ()
def PySem.W.Fast.tw16914660794251823255 : Unit := ()
def PySem.W.Fast.tw12691943906506702946 : Unit := ()
def PySem.W.Fast.tw496137447996918558 : Unit := ()
def PySem.W.Fast.tw16641499006724790002 : Unit := ()
def PySem.W.Fast.tw1843189736251726136 : Unit := ()
def PySem.W.Fast.tw8725050774842151825 : Unit := ()
def PySem.W.Fast.tw12624185016810112554 : Unit := ()
def PySem.W.Fast.tw17270988089705257900 : Unit := ()
def PySem.W.Fast.tw18409733938997330561 : Unit := ()
def PySem.W.Fast.tw7040497566453288137 : Unit := ()
def PySem.W.Fast.tw6349685252390909422 : Unit := ()
def PySem.W.Fast.tw13912943064852911272 : Unit := ()
def PySem.W.Fast.tw5245751596839327191 : Unit := ()
def PySem.W.Fast.tw16149995090257869485 : Unit := ()
def PySem.W.Fast.tw13618399588173424031 : Unit := ()
def PySem.W.Fast.tw10083612074337618318 : Unit := ()
def PySem.W.Fast.tw961376516513894036 : Unit := ()
def PySem.W.Fast.tw12774199027693019851 : Unit := ()
def PySem.W.Fast.tw9649844280247440239 : Unit := ()
def PySem.W.Fast.tw348694869063544841 : Unit := ()
def PySem.W.Fast.tw5753324714597946541 : Unit := ()
def PySem.W.Fast.tw4212085422793816280 : Unit := ()
def PySem.W.Fast.tw7347996667433389746 : Unit := ()
def PySem.W.Fast.tw8534983278191231217 : Unit := ()
def PySem.W.Fast.tw659676210541396950 : Unit := ()
def PySem.W.Fast.tw2103059503153418823 : Unit := ()
def PySem.W.Fast.tw5399533127236401904 : Unit := ()
def PySem.W.Fast.tw2529192768350816475 : Unit := ()
def PySem.W.Fast.tw17573159420060006337 : Unit := ()
def PySem.W.Fast.tw2761590378415048317 : Unit := ()
def PySem.W.Fast.tw5554598988454008248 : Unit := ()
def PySem.W.Fast.tw4132537313809552674 : Unit := ()
def PySem.W.Fast.tw5490202979708234427 : Unit := ()
def PySem.W.Fast.tw12934958776234929026 : Unit := ()
def PySem.W.Fast.tw18284300347778283219 : Unit := ()
def PySem.W.Fast.tw10704542814471573115 : Unit := ()
def PySem.W.Fast.tw18166858797611070249 : Unit := ()
def PySem.W.Fast.tw7705623445720557739 : Unit := ()
def PySem.W.Fast.tw17198662222027630728 : Unit := ()
def PySem.W.Fast.tw861502493610598483 : Unit := ()
def PySem.W.Fast.tw8971874369417828361 : Unit := ()
def PySem.W.Fast.tw14013075526952850178 : Unit := ()
def PySem.W.Fast.tw11782715740341747032 : Unit := ()
def PySem.W.Fast.tw13302572827562832774 : Unit := ()
def PySem.W.Fast.tw12003062915412020244 : Unit := ()
def PySem.W.Fast.tw6765518595679329259 : Unit := ()
def PySem.W.Fast.tw938635154573522699 : Unit := ()
def PySem.W.Fast.tw2373273590464397464 : Unit := ()
def PySem.W.Fast.tw7909973126167129995 : Unit := ()
def PySem.W.Fast.tw12660851010297394693 : Unit := ()
def PySem.W.Fast.tw13119622319108238238 : Unit := ()
def PySem.W.Fast.tw14376789851782861076 : Unit := ()
def PySem.W.Fast.tw5662727743769032502 : Unit := ()
def PySem.W.Fast.tw2518162390198998176 : Unit := ()
def PySem.W.Fast.tw12316619433691814132 : Unit := ()
def PySem.W.Fast.tw15407641928128187236 : Unit := ()
def PySem.W.Fast.tw2507257300511920353 : Unit := ()
def PySem.W.Fast.tw9129850255020905693 : Unit := ()
def PySem.W.Fast.tw14189299089732850666 : Unit := ()
def PySem.W.Fast.tw16975293693597689184 : Unit := ()
def PySem.W.Fast.tw6231640278636667092 : Unit := ()
def PySem.W.Fast.tw6640108222417080308 : Unit := ()
def PySem.W.Fast.tw6384015369863463123 : Unit := ()
def PySem.W.Fast.tw2797450679468435312 : Unit := ()
def PySem.W.Fast.tw17379953017592205206 : Unit := ()
def PySem.W.Fast.tw828409039992152624 : Unit := ()
def PySem.W.Fast.tw1438755393504825762 : Unit := ()
def PySem.W.Fast.tw12389389929107251545 : Unit := ()
def PySem.W.Fast.tw9527419180321252691 : Unit := ()
def PySem.W.Fast.tw1466257329495862874 : Unit := ()
def PySem.W.Fast.tw8908919040549398626 : Unit := ()
def PySem.W.Fast.tw1503250239209806528 : Unit := ()
def PySem.W.Fast.tw10212804917625248896 : Unit := ()
def PySem.W.Fast.tw165027664277594490 : Unit := ()
def PySem.W.Fast.tw6025630981660920175 : Unit := ()
def PySem.W.Fast.tw7325198549952846843 : Unit := ()
def PySem.W.Fast.tw12482692574710898639 : Unit := ()
def PySem.W.Fast.tw569045388307591074 : Unit := ()
def PySem.W.Fast.tw2977575698545427336 : Unit := ()
def PySem.W.Fast.tw2387727507792160852 : Unit := ()
def PySem.W.Fast.tw11964725637419963434 : Unit := ()
def PySem.W.Fast.tw7068124595914169548 : Unit := ()
def PySem.W.Fast.tw1801913920007440627 : Unit := ()
def PySem.W.Fast.tw6867675913061059349 : Unit := ()
def PySem.W.Fast.tw16775442761596649278 : Unit := ()
def PySem.W.Fast.tw16697166576565882877 : Unit := ()
def PySem.W.Fast.tw11073011122123847451 : Unit := ()
def PySem.W.Fast.tw12322814545570371552 : Unit := ()
def PySem.W.Fast.tw4419560091612502602 : Unit := ()
def PySem.W.Fast.tw6416048607194894570 : Unit := ()
def PySem.W.Fast.tw13559278262505134703 : Unit := ()
def PySem.W.Fast.tw15186544795357466642 : Unit := ()
def PySem.W.Fast.tw11145926294374398629 : Unit := ()
def PySem.W.Fast.tw16003459004352214150 : Unit := ()
def PySem.W.Fast.tw8201982785704070291 : Unit := ()
def PySem.W.Fast.tw5456381348068936097 : Unit := ()
def PySem.W.Fast.tw10370483320160674417 : Unit := ()
def PySem.W.Fast.tw14006044192439809114 : Unit := ()
def PySem.W.Fast.tw10490370165110772240 : Unit := ()
def PySem.W.Fast.tw1398982479542603342 : Unit := ()
def PySem.W.Fast.tw6603688690938367280 : Unit := ()
def PySem.W.Fast.tw971294360982226108 : Unit := ()
def PySem.W.Fast.tw15291583975584335250 : Unit := ()
def PySem.W.Fast.tw9443125862991664200 : Unit := ()
def PySem.W.Fast.tw9662259049488635684 : Unit := ()
def PySem.W.Fast.tw7887089111203064368 : Unit := ()
def PySem.W.Fast.tw18239740922972515729 : Unit := ()
def PySem.W.Fast.tw8138640342527316733 : Unit := ()
def PySem.W.Fast.tw10816499236916057833 : Unit := ()
def PySem.W.Fast.tw9179588572202669337 : Unit := ()
def PySem.W.Fast.tw2283896890618429344 : Unit := ()
def PySem.W.Fast.tw6613439513023985461 : Unit := ()
def PySem.W.Fast.tw3305155673523184265 : Unit := ()
def PySem.W.Fast.tw750736403488976009 : Unit := ()
def PySem.W.Fast.tw12751953857168319766 : Unit := ()
def PySem.W.Fast.tw6291730348519019896 : Unit := ()
def PySem.W.Fast.tw2699545759219762849 : Unit := ()
def PySem.W.Fast.tw14846510897046388721 : Unit := ()
def PySem.W.Fast.tw3374729889682530339 : Unit := ()
def PySem.W.Fast.tw3112668135855016189 : Unit := ()
def PySem.W.Fast.tw1724451608464743298 : Unit := ()
def PySem.W.Fast.tw8287128399393433146 : Unit := ()
def PySem.W.Fast.tw17470604029053592889 : Unit := ()
def PySem.W.Fast.tw8256879210264125214 : Unit := ()
def PySem.W.Fast.tw535757418327178112 : Unit := ()
def PySem.W.Fast.tw5248654229227210420 : Unit := ()
def PySem.W.Fast.tw6100669741154053100 : Unit := ()
def PySem.W.Fast.tw9725002431651430930 : Unit := ()
def PySem.W.Fast.tw6455448775889027602 : Unit := ()
def PySem.W.Fast.tw16374445220019083677 : Unit := ()
def PySem.W.Fast.tw6462579438049585543 : Unit := ()
def PySem.W.Fast.tw768871499545372235 : Unit := ()
def PySem.W.Fast.tw15379353820788368270 : Unit := ()
def PySem.W.Fast.tw16991094799718033687 : Unit := ()
def PySem.W.Fast.tw338911520998951194 : Unit := ()
def PySem.W.Fast.tw6932140252955286013 : Unit := ()
def PySem.W.Fast.tw6446451369018904458 : Unit := ()
def PySem.W.Fast.tw10869898076806036182 : Unit := ()
def PySem.W.Fast.tw12211479082485911385 : Unit := ()
def PySem.W.Fast.tw3277512857989297607 : Unit := ()
def PySem.W.Fast.tw4352062709750563720 : Unit := ()
def PySem.W.Fast.tw3306767516766556044 : Unit := ()
def PySem.W.Fast.tw16499035211322522136 : Unit := ()
def PySem.W.Fast.tw15227783849578428554 : Unit := ()
def PySem.W.Fast.tw10648708718356109402 : Unit := ()
def PySem.W.Fast.tw15146406887259745170 : Unit := ()
def PySem.W.Fast.tw6066564884338393890 : Unit := ()
def PySem.W.Fast.tw17608783711581289911 : Unit := ()
def PySem.W.Fast.tw305369951867277898 : Unit := ()
def PySem.W.Fast.tw16273770849045913005 : Unit := ()
def PySem.W.Fast.tw10905678247803878392 : Unit := ()
def PySem.W.Fast.tw16976579803990478401 : Unit := ()
def PySem.W.Fast.tw1395228969096387127 : Unit := ()
def PySem.W.Fast.tw7270330051091207356 : Unit := ()
def PySem.W.Fast.tw3823369707583426287 : Unit := ()
def PySem.W.Fast.tw113004433916169846 : Unit := ()
def PySem.W.Fast.tw12312410692651435080 : Unit := ()
def PySem.W.Fast.tw15275911397622846747 : Unit := ()
def PySem.W.Fast.tw1261806907556191193 : Unit := ()
def PySem.W.Fast.tw7628755128828557533 : Unit := ()
def PySem.W.Fast.tw10573825574681461822 : Unit := ()
def PySem.W.Fast.tw12840588548681072473 : Unit := ()
def PySem.W.Fast.tw13059820498087941580 : Unit := ()
def PySem.W.Fast.tw6924523310130603809 : Unit := ()
def PySem.W.Fast.tw934612331388277582 : Unit := ()
def PySem.W.Fast.tw8037687918988384007 : Unit := ()
def PySem.W.Fast.tw1178106319164388155 : Unit := ()
def PySem.W.Fast.tw5931984736804903731 : Unit := ()
def PySem.W.Fast.tw3521426334780680132 : Unit := ()
def PySem.W.Fast.tw1860445524951062477 : Unit := ()
def PySem.W.Fast.tw168163434311255191 : Unit := ()
def PySem.W.Fast.tw4163257999175649156 : Unit := ()
def PySem.W.Fast.tw3320931648880268276 : Unit := ()
def PySem.W.Fast.tw2651928988405845520 : Unit := ()
def PySem.W.Fast.tw2896920925574700652 : Unit := ()
def PySem.W.Fast.tw11619231495011929510 : Unit := ()
def PySem.W.Fast.tw13584717597554406801 : Unit := ()
def PySem.W.Fast.tw7765465853114648901 : Unit := ()
def PySem.W.Fast.tw3088223985497424452 : Unit := ()
def PySem.W.Fast.tw4774106273657764865 : Unit := ()
def PySem.W.Fast.tw3388406787211673856 : Unit := ()
def PySem.W.Fast.tw17509382820008702535 : Unit := ()
def PySem.W.Fast.tw6699484020298486944 : Unit := ()
def PySem.W.Fast.tw11701141055886086528 : Unit := ()
def PySem.W.Fast.tw11703465760005444102 : Unit := ()
def PySem.W.Fast.tw4243038710480166997 : Unit := ()
def PySem.W.Fast.tw6253463765022312109 : Unit := ()
def PySem.W.Fast.tw7897120025066603184 : Unit := ()
def PySem.W.Fast.tw15218899280903676606 : Unit := ()
def PySem.W.Fast.tw994332869271867011 : Unit := ()
def PySem.W.Fast.tw4816907091861118005 : Unit := ()
def PySem.W.Fast.tw12144614996238119031 : Unit := ()
def PySem.W.Fast.tw5134384161122975480 : Unit := ()
def PySem.W.Fast.tw2172938679700147729 : Unit := ()
def PySem.W.Fast.tw7542452507576841085 : Unit := ()
def PySem.W.Fast.tw18188982039572612526 : Unit := ()
def PySem.W.Fast.tw18059354320758474759 : Unit := ()
def PySem.W.Fast.tw5561967972604150758 : Unit := ()
def PySem.W.Fast.tw9630640787337402302 : Unit := ()
def PySem.W.Fast.tw7527624004082465726 : Unit := ()
def PySem.W.Fast.tw13321084419324649987 : Unit := ()
def PySem.W.Fast.tw15581685029528723531 : Unit := ()
def PySem.W.Fast.tw5169815424762739871 : Unit := ()
def PySem.W.Fast.tw4091357562152557664 : Unit := ()
def PySem.W.Fast.tw4590685689166545327 : Unit := ()
def PySem.W.Fast.tw7172067085826705203 : Unit := ()
def PySem.W.Fast.tw12933479658097070901 : Unit := ()
def PySem.W.Fast.tw13430709564257238900 : Unit := ()
def PySem.W.Fast.tw8397486991454871538 : Unit := ()
def PySem.W.Fast.tw18341414831700704779 : Unit := ()
def PySem.W.Fast.tw9069156656978946652 : Unit := ()
def PySem.W.Fast.tw3366599023129062398 : Unit := ()
def PySem.W.Fast.tw296802860069409674 : Unit := ()
def PySem.W.Fast.tw753900405779760800 : Unit := ()
def PySem.W.Fast.tw9456530910375919889 : Unit := ()
def PySem.W.Fast.tw4941332934123108297 : Unit := ()
def PySem.W.Fast.tw16481120176889925793 : Unit := ()
def PySem.W.Fast.tw9728940257005574279 : Unit := ()
def PySem.W.Fast.tw15492481648750413915 : Unit := ()
def PySem.W.Fast.tw10031609032697233035 : Unit := ()
def PySem.W.Fast.tw15953321752856581194 : Unit := ()
def PySem.W.Fast.tw3540038181835013990 : Unit := ()
def PySem.W.Fast.tw6910007139127770264 : Unit := ()
def PySem.W.Fast.tw8804825653814845004 : Unit := ()
def PySem.W.Fast.tw9366377582371147869 : Unit := ()
def PySem.W.Fast.tw11721093738568818304 : Unit := ()
def PySem.W.Fast.tw6320340594335092902 : Unit := ()
def PySem.W.Fast.tw14211855207546398734 : Unit := ()
def PySem.W.Fast.tw4913987777300868060 : Unit := ()
def PySem.W.Fast.tw11989649143736679576 : Unit := ()
def PySem.W.Fast.tw3561245760482650408 : Unit := ()
def PySem.W.Fast.tw7078082483713016485 : Unit := ()
def PySem.W.Fast.tw14050300676072278860 : Unit := ()
def PySem.W.Fast.tw4218082148368573619 : Unit := ()
def PySem.W.Fast.tw15797768389013017649 : Unit := ()
def PySem.W.Fast.tw8886277984337300556 : Unit := ()
def PySem.W.Fast.tw5665507855657987438 : Unit := ()
def PySem.W.Fast.tw288184365678090983 : Unit := ()
def PySem.W.Fast.tw1851916831909376693 : Unit := ()
def PySem.W.Fast.tw16004190337636171278 : Unit := ()
def PySem.W.Fast.tw7011592973651803492 : Unit := ()
def PySem.W.Fast.tw6677209849153149159 : Unit := ()
def PySem.W.Fast.tw14778846292210774071 : Unit := ()
def PySem.W.Fast.tw5672366690153717777 : Unit := ()
def PySem.W.Fast.tw9399322696423458829 : Unit := ()
def PySem.W.Fast.tw9438312820480232419 : Unit := ()
def PySem.W.Fast.tw7184397397212273989 : Unit := ()
def PySem.W.Fast.tw16802270264629807189 : Unit := ()
def PySem.W.Fast.tw16605280902153050085 : Unit := ()
def PySem.W.Fast.tw13454825775186666393 : Unit := ()
def PySem.W.Fast.tw7338166688736610317 : Unit := ()
def PySem.W.Fast.tw7116774647543093899 : Unit := ()
def PySem.W.Fast.tw9549882637702757194 : Unit := ()
def PySem.W.Fast.tw5144887185800640333 : Unit := ()
def PySem.W.Fast.tw6047590297456929787 : Unit := ()
def PySem.W.Fast.tw16476503092132189980 : Unit := ()
def PySem.W.Fast.tw15896983231889346663 : Unit := ()
def PySem.W.Fast.tw4856584235195805183 : Unit := ()
def PySem.W.Fast.tw3806379152180442927 : Unit := ()
def PySem.W.Fast.tw17783654914452407979 : Unit := ()
def PySem.W.Fast.tw2198447699046092492 : Unit := ()
def PySem.W.Fast.tw3180275004101630382 : Unit := ()
def PySem.W.Fast.tw10302084404153211084 : Unit := ()
def PySem.W.Fast.tw8986720848405020376 : Unit := ()
def PySem.W.Fast.tw2204109071722671894 : Unit := ()
def PySem.W.Fast.tw12535673037089337695 : Unit := ()
def PySem.W.Fast.tw15786376773245358289 : Unit := ()
def PySem.W.Fast.tw3480143369826604885 : Unit := ()
def PySem.W.Fast.tw15795063354700131462 : Unit := ()
def PySem.W.Fast.tw8912216566152347561 : Unit := ()
def PySem.W.Fast.tw17496293139786751463 : Unit := ()
def PySem.W.Fast.tw17837700589577597576 : Unit := ()
def PySem.W.Fast.tw13617825660925147760 : Unit := ()
def PySem.W.Fast.tw2221297681128891080 : Unit := ()
def PySem.W.Fast.tw9103522997764569015 : Unit := ()
def PySem.W.Fast.tw13118382750187966641 : Unit := ()
def PySem.W.Fast.tw10410709935502406062 : Unit := ()
def PySem.W.Fast.tw1474571391116995993 : Unit := ()
def PySem.W.Fast.tw12047059979563163951 : Unit := ()
def PySem.W.Fast.tw11454861162496085822 : Unit := ()
def PySem.W.Fast.tw10917436282901120737 : Unit := ()
def PySem.W.Fast.tw9682271300708635863 : Unit := ()
def PySem.W.Fast.tw15544652013448080404 : Unit := ()
def PySem.W.Fast.tw11289975278343794372 : Unit := ()
def PySem.W.Fast.tw1065567772725695514 : Unit := ()
def PySem.W.Fast.tw5539490546563695325 : Unit := ()
def PySem.W.Fast.tw273827895557368559 : Unit := ()
def PySem.W.Fast.tw15914871415800611348 : Unit := ()
def PySem.W.Fast.tw492939417039491631 : Unit := ()
def PySem.W.Fast.tw16655933491062851922 : Unit := ()
def PySem.W.Fast.tw1234296518631855984 : Unit := ()
def PySem.W.Fast.tw493557060582927548 : Unit := ()
def PySem.W.Fast.tw13770422394275511652 : Unit := ()
def PySem.W.Fast.tw13179625733959413070 : Unit := ()
def PySem.W.Fast.tw4830603910325797315 : Unit := ()
def PySem.W.Fast.tw13767142442688953173 : Unit := ()
def PySem.W.Fast.tw5651905717554246749 : Unit := ()
def PySem.W.Fast.tw10366756561754692005 : Unit := ()
def PySem.W.Fast.tw14146952199865091922 : Unit := ()
def PySem.W.Fast.tw4267570725802493623 : Unit := ()
def PySem.W.Fast.tw4999626830345055550 : Unit := ()
def PySem.W.Fast.tw2750241611909316711 : Unit := ()
def PySem.W.Fast.tw16907133093404808884 : Unit := ()
def PySem.W.Fast.tw11337920880029341357 : Unit := ()
def PySem.W.Fast.tw13106595835958493140 : Unit := ()
def PySem.W.Fast.tw13502404384460067166 : Unit := ()
def PySem.W.Fast.tw4963797939284903742 : Unit := ()
def PySem.W.Fast.tw14501167723877237875 : Unit := ()
def PySem.W.Fast.tw18351944733973664453 : Unit := ()
def PySem.W.Fast.tw16055348942570360561 : Unit := ()
def PySem.W.Fast.tw2309279915075716119 : Unit := ()
def PySem.W.Fast.tw7191273268069453650 : Unit := ()
def PySem.W.Fast.tw12064402412539145503 : Unit := ()
def PySem.W.Fast.tw13294663890295627709 : Unit := ()
def PySem.W.Fast.tw9229089348516881686 : Unit := ()
def PySem.W.Fast.tw7657144363682378352 : Unit := ()
def PySem.W.Fast.tw2224382782747890561 : Unit := ()
def PySem.W.Fast.tw1540495269515653059 : Unit := ()
def PySem.W.Fast.tw11512212400442634819 : Unit := ()
def PySem.W.Fast.tw17936819175674813558 : Unit := ()
def PySem.W.Fast.tw11482253894916763085 : Unit := ()
def PySem.W.Fast.tw14633809851228328427 : Unit := ()
def PySem.W.Fast.tw11788480067036078419 : Unit := ()
def PySem.W.Fast.tw12289652512537909853 : Unit := ()
def PySem.W.Fast.tw6201853392713262806 : Unit := ()
def PySem.W.Fast.tw3596587169704208021 : Unit := ()
def PySem.W.Fast.tw12166224886399631655 : Unit := ()
def PySem.W.Fast.tw8149252080436961381 : Unit := ()
def PySem.W.Fast.tw7443923171620988776 : Unit := ()
def PySem.W.Fast.tw1831007141909270991 : Unit := ()
def PySem.W.Fast.tw17150705853772894057 : Unit := ()
def PySem.W.Fast.tw12457410782158823613 : Unit := ()
def PySem.W.Fast.tw7417112768993305541 : Unit := ()
def PySem.W.Fast.tw6840617020988945673 : Unit := ()
def PySem.W.Fast.tw13980698275852161412 : Unit := ()
def PySem.W.Fast.tw5721168408972991864 : Unit := ()
def PySem.W.Fast.tw17948646859887798682 : Unit := ()
def PySem.W.Fast.tw4422658359800910948 : Unit := ()
def PySem.W.Fast.tw6292420348458362746 : Unit := ()
def PySem.W.Fast.tw14540277081642004690 : Unit := ()
def PySem.W.Fast.tw9693710727503420936 : Unit := ()
def PySem.W.Fast.tw11282344100014373100 : Unit := ()
def PySem.W.Fast.tw14890753257944183387 : Unit := ()
def PySem.W.Fast.tw11275395632873798354 : Unit := ()
def PySem.W.Fast.tw17768926281005643816 : Unit := ()
def PySem.W.Fast.tw1615749036099935117 : Unit := ()
def PySem.W.Fast.tw15483853907398671209 : Unit := ()
def PySem.W.Fast.tw15456252388782903351 : Unit := ()
def PySem.W.Fast.tw18245617408183566021 : Unit := ()
def PySem.W.Fast.tw18228500321758277692 : Unit := ()
def PySem.W.Fast.tw1467881062886781713 : Unit := ()
def PySem.W.Fast.tw1199729387285892292 : Unit := ()
def PySem.W.Fast.tw3679148319671544988 : Unit := ()
def PySem.W.Fast.tw18161983261759159201 : Unit := ()
def PySem.W.Fast.tw6866830945378348123 : Unit := ()
def PySem.W.Fast.tw6014698560586773530 : Unit := ()
def PySem.W.Fast.tw11717107899311158237 : Unit := ()
def PySem.W.Fast.tw2579560948749188208 : Unit := ()
def PySem.W.Fast.tw17305833464905551700 : Unit := ()
def PySem.W.Fast.tw17067072169431653450 : Unit := ()
def PySem.W.Fast.tw15929911469996914579 : Unit := ()
def PySem.W.Fast.tw12108779175945528642 : Unit := ()
def PySem.W.Fast.tw4304687012698091048 : Unit := ()
def PySem.W.Fast.tw11699786106520543882 : Unit := ()
def PySem.W.Fast.tw6507214743839554639 : Unit := ()
def PySem.W.Fast.tw17519190801306200062 : Unit := ()
def PySem.W.Fast.tw9308888254943633313 : Unit := ()
def PySem.W.Fast.tw12891516588037830621 : Unit := ()
def PySem.W.Fast.tw2351186316033957561 : Unit := ()
def PySem.W.Fast.tw5499018202538547605 : Unit := ()
def PySem.W.Fast.tw15436225227692257690 : Unit := ()
def PySem.W.Fast.tw10434061796476090227 : Unit := ()
def PySem.W.Fast.tw15421471945526172783 : Unit := ()
def PySem.W.Fast.tw1265651849678718269 : Unit := ()
def PySem.W.Fast.tw8092017373265541207 : Unit := ()
def PySem.W.Fast.tw9377399702891462756 : Unit := ()
def PySem.W.Fast.tw16116035799085303 : Unit := ()
def PySem.W.Fast.tw12614979781877891681 : Unit := ()
def PySem.W.Fast.tw5899488701739824152 : Unit := ()
def PySem.W.Fast.tw17280583731042660338 : Unit := ()
def PySem.W.Fast.tw15696033315013662594 : Unit := ()
def PySem.W.Fast.tw14059688812133837242 : Unit := ()
def PySem.W.Fast.tw16455004175669890477 : Unit := ()
def PySem.W.Fast.tw10122543833336825250 : Unit := ()
def PySem.W.Fast.tw10254882218478084091 : Unit := ()
def PySem.W.Fast.tw4162751259795888261 : Unit := ()
def PySem.W.Fast.tw5398636438398002943 : Unit := ()
def PySem.W.Fast.tw9665208797041681627 : Unit := ()
def PySem.W.Fast.tw4251771625158361123 : Unit := ()
def PySem.W.Fast.tw13474882039711888139 : Unit := ()
def PySem.W.Fast.tw17791866116700250274 : Unit := ()
def PySem.W.Fast.tw15168726534467826701 : Unit := ()
def PySem.W.Fast.tw12892698136067145788 : Unit := ()
def PySem.W.Fast.tw10510428063187443191 : Unit := ()
def PySem.W.Fast.tw3602289020168141236 : Unit := ()
def PySem.W.Fast.tw18332043590046316459 : Unit := ()
def PySem.W.Fast.tw2161693635619550248 : Unit := ()
def PySem.W.Fast.tw17990205162112683432 : Unit := ()
def PySem.W.Fast.tw12896217097532216654 : Unit := ()
def PySem.W.Fast.tw11717028543283199716 : Unit := ()
def PySem.W.Fast.tw15542674965345845733 : Unit := ()
def PySem.W.Fast.tw2967640070517252933 : Unit := ()
def PySem.W.Fast.tw4640439036967617903 : Unit := ()
def PySem.W.Fast.tw8649086378822578845 : Unit := ()
def PySem.W.Fast.tw1034198873290847595 : Unit := ()
def PySem.W.Fast.tw6241883836589141855 : Unit := ()
def PySem.W.Fast.tw13833430344626982015 : Unit := ()
def PySem.W.Fast.tw4552803448438322575 : Unit := ()
def PySem.W.Fast.tw8267094973942711245 : Unit := ()
def PySem.W.Fast.tw3778174225560487172 : Unit := ()
def PySem.W.Fast.tw18092001070498030717 : Unit := ()
def PySem.W.Fast.tw5128801737810914715 : Unit := ()
def PySem.W.Fast.tw12681858541765064106 : Unit := ()
def PySem.W.Fast.tw395372135433800450 : Unit := ()
def PySem.W.Fast.tw9042205976518043019 : Unit := ()
def PySem.W.Fast.tw7491653007029408051 : Unit := ()
def PySem.W.Fast.tw17579749744332247784 : Unit := ()
def PySem.W.Fast.tw8932405508472261999 : Unit := ()
def PySem.W.Fast.tw4544343990577933448 : Unit := ()
def PySem.W.Fast.tw12933234616287059325 : Unit := ()
def PySem.W.Fast.tw11685498394357318839 : Unit := ()
def PySem.W.Fast.tw2490728009301722059 : Unit := ()
def PySem.W.Fast.tw6953095128948517387 : Unit := ()
def PySem.W.Fast.tw10901959299569529092 : Unit := ()
def PySem.W.Fast.tw13981452214448068213 : Unit := ()
def PySem.W.Fast.tw9901908097241666888 : Unit := ()
def PySem.W.Fast.tw3673325797879883539 : Unit := ()
def PySem.W.Fast.tw15770370729479978298 : Unit := ()
def PySem.W.Fast.tw13511992687274298725 : Unit := ()
def PySem.W.Fast.tw4498228496718714200 : Unit := ()
def PySem.W.Fast.tw11784962848762443324 : Unit := ()
def PySem.W.Fast.tw5566548578666309013 : Unit := ()
def PySem.W.Fast.tw3032623474359738624 : Unit := ()
def PySem.W.Fast.tw15015364577301290977 : Unit := ()
def PySem.W.Fast.tw96941311961714164 : Unit := ()
def PySem.W.Fast.tw11471079984922062819 : Unit := ()
def PySem.W.Fast.tw10451966708060686976 : Unit := ()
def PySem.W.Fast.tw17941120891163180031 : Unit := ()
def PySem.W.Fast.tw11403810208330656194 : Unit := ()
def PySem.W.Fast.tw3251101116816316548 : Unit := ()
def PySem.W.Fast.tw16017977789385075669 : Unit := ()
def PySem.W.Fast.tw7000826075519286045 : Unit := ()
def PySem.W.Fast.tw3651860448251316091 : Unit := ()
def PySem.W.Fast.tw1581448484796056830 : Unit := ()
def PySem.W.Fast.tw4103399058249847743 : Unit := ()
def PySem.W.Fast.tw17017770176905964937 : Unit := ()
def PySem.W.Fast.tw8389707800137418448 : Unit := ()
def PySem.W.Fast.tw12065251101286096228 : Unit := ()
def PySem.W.Fast.tw9695402029812022462 : Unit := ()
def PySem.W.Fast.tw7062684949388954219 : Unit := ()
def PySem.W.Fast.tw10057919985460382355 : Unit := ()
def PySem.W.Fast.tw9546528065315061360 : Unit := ()
def PySem.W.Fast.tw11304557504525921687 : Unit := ()
def PySem.W.Fast.tw4087379180038926508 : Unit := ()
def PySem.W.Fast.tw2760392076448383955 : Unit := ()
def PySem.W.Fast.tw10538759249579994620 : Unit := ()
def PySem.W.Fast.tw13517652999779789298 : Unit := ()
def PySem.W.Fast.tw7853616162499752749 : Unit := ()
def PySem.W.Fast.tw8387058104162674081 : Unit := ()
def PySem.W.Fast.tw3561827030064447572 : Unit := ()
def PySem.W.Fast.tw9957257557080373069 : Unit := ()
def PySem.W.Fast.tw6381214361051813054 : Unit := ()
def PySem.W.Fast.tw13746486385918729132 : Unit := ()
def PySem.W.Fast.tw17178087403101200862 : Unit := ()
def PySem.W.Fast.tw13804342646890345530 : Unit := ()
def PySem.W.Fast.tw17345761314292971700 : Unit := ()
def PySem.W.Fast.tw17655362619550898142 : Unit := ()
def PySem.W.Fast.tw11922449745050801684 : Unit := ()
def PySem.W.Fast.tw5357713896009074166 : Unit := ()
def PySem.W.Fast.tw13414317245553222831 : Unit := ()
def PySem.W.Fast.tw2983640143739291748 : Unit := ()
def PySem.W.Fast.tw15032562383077304015 : Unit := ()
def PySem.W.Fast.tw4064361086820375499 : Unit := ()
def PySem.W.Fast.tw11226627605947430842 : Unit := ()
def PySem.W.Fast.tw18299005201570620540 : Unit := ()
def PySem.W.Fast.tw14242289395231134562 : Unit := ()
def PySem.W.Fast.tw3178841573619747441 : Unit := ()
def PySem.W.Fast.tw10943065563948715657 : Unit := ()
def PySem.W.Fast.tw13912230262833856199 : Unit := ()
def PySem.W.Fast.tw3026231797526601768 : Unit := ()
def PySem.W.Fast.tw6108671856727231990 : Unit := ()
def PySem.W.Fast.tw11142374352682365527 : Unit := ()
def PySem.W.Fast.tw11284880096355222998 : Unit := ()
def PySem.W.Fast.tw12507666540209912464 : Unit := ()
def PySem.W.Fast.tw1350303751243738378 : Unit := ()
def PySem.W.Fast.tw15431633819729803948 : Unit := ()
def PySem.W.Fast.tw7867422872016370244 : Unit := ()
def PySem.W.Fast.tw9852968184354612865 : Unit := ()
def PySem.W.Fast.tw6050443969568465173 : Unit := ()
def PySem.W.Fast.tw2518880310202618698 : Unit := ()
def PySem.W.Fast.tw12114848299111494573 : Unit := ()
def PySem.W.Fast.tw4975793867302966859 : Unit := ()
def PySem.W.Fast.tw3067965832481280497 : Unit := ()
def PySem.W.Fast.tw17132307973412125479 : Unit := ()
def PySem.W.Fast.tw17445919073784052237 : Unit := ()
def PySem.W.Fast.tw3623986449972533287 : Unit := ()
def PySem.W.Fast.tw6742006924968186824 : Unit := ()
def PySem.W.Fast.tw11004901640502454124 : Unit := ()
def PySem.W.Fast.tw10454707288467746658 : Unit := ()
def PySem.W.Fast.tw14071324341268282375 : Unit := ()
def PySem.W.Fast.tw12556318885030336296 : Unit := ()
def PySem.W.Fast.tw14565488149242027402 : Unit := ()
def PySem.W.Fast.tw6389521340206720116 : Unit := ()
def PySem.W.Fast.tw15080368757535878192 : Unit := ()
def PySem.W.Fast.tw10725366216151046419 : Unit := ()
def PySem.W.Fast.tw1004190773475216357 : Unit := ()
def PySem.W.Fast.tw7943796657429472613 : Unit := ()
def PySem.W.Fast.tw12732778898489697121 : Unit := ()
def PySem.W.Fast.tw3404908508614252195 : Unit := ()
def PySem.W.Fast.tw16337829757602789733 : Unit := ()
def PySem.W.Fast.tw3574685671164565986 : Unit := ()
def PySem.W.Fast.tw6586298337692957092 : Unit := ()
def PySem.W.Fast.tw14272031500392327583 : Unit := ()
def PySem.W.Fast.tw3307029411792442724 : Unit := ()
def PySem.W.Fast.tw3613658301350657090 : Unit := ()
def PySem.W.Fast.tw15204833250737438795 : Unit := ()
def PySem.W.Fast.tw15631252469917543375 : Unit := ()
def PySem.W.Fast.tw1852362214379755289 : Unit := ()
def PySem.W.Fast.tw875056594858193216 : Unit := ()
def PySem.W.Fast.tw8825903386272284353 : Unit := ()
def PySem.W.Fast.tw5267045211706862808 : Unit := ()
def PySem.W.Fast.tw13804068362094570487 : Unit := ()
def PySem.W.Fast.tw14865964624916263035 : Unit := ()
def PySem.W.Fast.tw217557514606379185 : Unit := ()
def PySem.W.Fast.tw8198303382278796740 : Unit := ()
def PySem.W.Fast.tw10674313879353001678 : Unit := ()
def PySem.W.Fast.tw90288317897930051 : Unit := ()
def PySem.W.Fast.tw12883541360470815665 : Unit := ()
def PySem.W.Fast.tw7644344617471763602 : Unit := ()
def PySem.W.Fast.tw14511018718237304938 : Unit := ()
def PySem.W.Fast.tw18211256463988974994 : Unit := ()
def PySem.W.Fast.tw8471269336323176447 : Unit := ()
def PySem.W.Fast.tw9342091895188213686 : Unit := ()
def PySem.W.Fast.tw3369672764066864390 : Unit := ()
def PySem.W.Fast.tw3373393288896836014 : Unit := ()
def PySem.W.Fast.tw6608736771172390320 : Unit := ()
def PySem.W.Fast.tw518780722745601928 : Unit := ()
def PySem.W.Fast.tw16313452436235197665 : Unit := ()
def PySem.W.Fast.tw18083341280239153452 : Unit := ()
def PySem.W.Fast.tw9708325140422149457 : Unit := ()
def PySem.W.Fast.tw5278022640236063022 : Unit := ()
def PySem.W.Fast.tw1591272322931911807 : Unit := ()
def PySem.W.Fast.tw7157264866642665897 : Unit := ()
def PySem.W.Fast.tw6881562489159757695 : Unit := ()
def PySem.W.Fast.tw85151056031354416 : Unit := ()
def PySem.W.Fast.tw9526986288804653824 : Unit := ()
def PySem.W.Fast.tw10035284777357378067 : Unit := ()
def PySem.W.Fast.tw12043601559966384358 : Unit := ()
def PySem.W.Fast.tw6112923906182030987 : Unit := ()
def PySem.W.Fast.tw7968156225490159433 : Unit := ()
def PySem.W.Fast.tw16674291219745778836 : Unit := ()
def PySem.W.Fast.tw4677473738785630788 : Unit := ()
def PySem.W.Fast.tw7896731467361442820 : Unit := ()
def PySem.W.Fast.tw17985313389325306912 : Unit := ()
def PySem.W.Fast.tw15968444099597076930 : Unit := ()
def PySem.W.Fast.tw15515352540160523536 : Unit := ()
def PySem.W.Fast.tw7507186612638985647 : Unit := ()
def PySem.W.Fast.tw6958704422754920705 : Unit := ()
def PySem.W.Fast.tw4881261215247028153 : Unit := ()
def PySem.W.Fast.tw3332778408777044769 : Unit := ()
def PySem.W.Fast.tw3208154706730797840 : Unit := ()
def PySem.W.Fast.tw1200963386621483363 : Unit := ()
def PySem.W.Fast.tw9542682197918810714 : Unit := ()
def PySem.W.Fast.tw1075335316416136652 : Unit := ()
def PySem.W.Fast.tw7288812372723142599 : Unit := ()
def PySem.W.Fast.tw7741052121826921110 : Unit := ()
def PySem.W.Fast.tw16862706872697600852 : Unit := ()
def PySem.W.Fast.tw7696625221120266273 : Unit := ()
def PySem.W.Fast.tw2932665863213220062 : Unit := ()
def PySem.W.Fast.tw14378919708261470921 : Unit := ()
def PySem.W.Fast.tw17999175125839240074 : Unit := ()
def PySem.W.Fast.tw17384865816702353016 : Unit := ()
def PySem.W.Fast.tw13293253824858720423 : Unit := ()
def PySem.W.Fast.tw5250239994390057157 : Unit := ()
def PySem.W.Fast.tw14739391264513401825 : Unit := ()
def PySem.W.Fast.tw12064167813175613096 : Unit := ()
def PySem.W.Fast.tw1480795157740379278 : Unit := ()
def PySem.W.Fast.tw5687560648516745503 : Unit := ()
def PySem.W.Fast.tw15684275195438985811 : Unit := ()
def PySem.W.Fast.tw15032258006968258975 : Unit := ()
def PySem.W.Fast.tw11038901052642760692 : Unit := ()
def PySem.W.Fast.tw17125646679677012054 : Unit := ()
def PySem.W.Fast.tw13789960641523281025 : Unit := ()
def PySem.W.Fast.tw6197471073431130303 : Unit := ()
def PySem.W.Fast.tw15868536612436742399 : Unit := ()
def PySem.W.Fast.tw4916432428733036889 : Unit := ()
def PySem.W.Fast.tw2555511629061005108 : Unit := ()
def PySem.W.Fast.tw77397688902155077 : Unit := ()
def PySem.W.Fast.tw414952305486264866 : Unit := ()
def PySem.W.Fast.tw8806018388830896355 : Unit := ()
def PySem.W.Fast.tw2832995464874323858 : Unit := ()
def PySem.W.Fast.tw11279597130529158438 : Unit := ()
def PySem.W.Fast.tw10236635596659724773 : Unit := ()
def PySem.W.Fast.tw1561930073848998868 : Unit := ()
def PySem.W.Fast.tw5373719147135132020 : Unit := ()
def PySem.W.Fast.tw7082597659846617313 : Unit := ()
def PySem.W.Fast.tw8317949291206851712 : Unit := ()
def PySem.W.Fast.tw8795041286586768668 : Unit := ()
def PySem.W.Fast.tw10985977521032532448 : Unit := ()
def PySem.W.Fast.tw6080695400091634024 : Unit := ()
def PySem.W.Fast.tw13247487654805734885 : Unit := ()
def PySem.W.Fast.tw3073996113339175768 : Unit := ()
def PySem.W.Fast.tw9461742886902052208 : Unit := ()
def PySem.W.Fast.tw9819218150288406126 : Unit := ()
def PySem.W.Fast.tw14556046282815939162 : Unit := ()
def PySem.W.Fast.tw4715322325142750446 : Unit := ()
def PySem.W.Fast.tw7747430459824637639 : Unit := ()
def PySem.W.Fast.tw5543183969791683987 : Unit := ()
def PySem.W.Fast.tw5352352130042984434 : Unit := ()
def PySem.W.Fast.tw8933551595104133173 : Unit := ()
def PySem.W.Fast.tw6102295475572695453 : Unit := ()
def PySem.W.Fast.tw9817494545880887844 : Unit := ()
def PySem.W.Fast.tw16549658398736914418 : Unit := ()
def PySem.W.Fast.tw5004767295572457532 : Unit := ()
def PySem.W.Fast.tw17494381780698574722 : Unit := ()
def PySem.W.Fast.tw3406358476005668651 : Unit := ()
def PySem.W.Fast.tw13245873087835525422 : Unit := ()
def PySem.W.Fast.tw7649948733239427238 : Unit := ()
def PySem.W.Fast.tw6353928513184090389 : Unit := ()
def PySem.W.Fast.tw2646345600932468536 : Unit := ()
def PySem.W.Fast.tw12342807166695948425 : Unit := ()
def PySem.W.Fast.tw1297221960982797985 : Unit := ()
def PySem.W.Fast.tw8999547067103218906 : Unit := ()
def PySem.W.Fast.tw9145434568900460619 : Unit := ()
def PySem.W.Fast.tw18432899684345331815 : Unit := ()
def PySem.W.Fast.tw11124144808461538734 : Unit := ()
def PySem.W.Fast.tw5999515081351392082 : Unit := ()
def PySem.W.Fast.tw1253736916976789861 : Unit := ()
def PySem.W.Fast.tw14172822724767538736 : Unit := ()
def PySem.W.Fast.tw6867272706357489622 : Unit := ()
def PySem.W.Fast.tw1031011393965172342 : Unit := ()
def PySem.W.Fast.tw12018226391631418480 : Unit := ()
def PySem.W.Fast.tw3354485979748902169 : Unit := ()
def PySem.W.Fast.tw2143126618029641277 : Unit := ()
def PySem.W.Fast.tw8378733035115052519 : Unit := ()
def PySem.W.Fast.tw12650940102420419871 : Unit := ()
def PySem.W.Fast.tw14962144517031376682 : Unit := ()
def PySem.W.Fast.tw16353540774337021327 : Unit := ()
def PySem.W.Fast.tw16071189900044198502 : Unit := ()
def PySem.W.Fast.tw17406812528812936780 : Unit := ()
def PySem.W.Fast.tw9644640939109230823 : Unit := ()
def PySem.W.Fast.tw3408282621479317319 : Unit := ()
def PySem.W.Fast.tw16951271270799690285 : Unit := ()
def PySem.W.Fast.tw11948392830981850933 : Unit := ()
def PySem.W.Fast.tw3301413778003405870 : Unit := ()
def PySem.W.Fast.tw7362059139807625346 : Unit := ()
def PySem.W.Fast.tw16230748174208919723 : Unit := ()
def PySem.W.Fast.tw521357692318583387 : Unit := ()
def PySem.W.Fast.tw11553297139183511856 : Unit := ()
def PySem.W.Fast.tw14326592737116437487 : Unit := ()
def PySem.W.Fast.tw15678962729370100025 : Unit := ()
def PySem.W.Fast.tw8028159980993864383 : Unit := ()
def PySem.W.Fast.tw11330159382029887141 : Unit := ()
def PySem.W.Fast.tw17651092630663426954 : Unit := ()
def PySem.W.Fast.tw3788541034521557184 : Unit := ()
def PySem.W.Fast.tw6999804581297296408 : Unit := ()
def PySem.W.Fast.tw4960150981631560524 : Unit := ()
def PySem.W.Fast.tw14716424677831503721 : Unit := ()
def PySem.W.Fast.tw2856427874267772620 : Unit := ()
def PySem.W.Fast.tw4687946625189666175 : Unit := ()
def PySem.W.Fast.tw9173074725897684169 : Unit := ()
def PySem.W.Fast.tw6088397862753528183 : Unit := ()
def PySem.W.Fast.tw13062344456600369876 : Unit := ()
def PySem.W.Fast.tw17094759308919570646 : Unit := ()
def PySem.W.Fast.tw15224027420431058113 : Unit := ()
def PySem.W.Fast.tw6094606001409747662 : Unit := ()
def PySem.W.Fast.tw6049560519382963843 : Unit := ()
def PySem.W.Fast.tw4545814906192354978 : Unit := ()
def PySem.W.Fast.tw10414330385678802991 : Unit := ()
def PySem.W.Fast.tw15369129192419692082 : Unit := ()
def PySem.W.Fast.tw17018565012595457095 : Unit := ()
def PySem.W.Fast.tw5788611251360754335 : Unit := ()
def PySem.W.Fast.tw12471492895901568826 : Unit := ()
def PySem.W.Fast.tw2782833988838925007 : Unit := ()
def PySem.W.Fast.tw11069472356170728992 : Unit := ()
def PySem.W.Fast.tw12822683334537190618 : Unit := ()
def PySem.W.Fast.tw14019656519306386742 : Unit := ()
def PySem.W.Fast.tw907105017856786954 : Unit := ()
def PySem.W.Fast.tw8200471697830512917 : Unit := ()
def PySem.W.Fast.tw10741630057366059009 : Unit := ()
def PySem.W.Fast.tw16047796217837190032 : Unit := ()
def PySem.W.Fast.tw12122282087179781129 : Unit := ()
def PySem.W.Fast.tw17332964493986919756 : Unit := ()
def PySem.W.Fast.tw12309678263274590126 : Unit := ()
def PySem.W.Fast.tw1220784437541120583 : Unit := ()
def PySem.W.Fast.tw11519634916165537222 : Unit := ()
def PySem.W.Fast.tw8563390917355286768 : Unit := ()
def PySem.W.Fast.tw12929139512908168775 : Unit := ()
def PySem.W.Fast.tw8798884923969798201 : Unit := ()
def PySem.W.Fast.tw470375464239606006 : Unit := ()
def PySem.W.Fast.tw16821422996326449751 : Unit := ()
def PySem.W.Fast.tw9038149376559709039 : Unit := ()
def PySem.W.Fast.tw8590653519890164712 : Unit := ()
def PySem.W.Fast.tw15266381480254120705 : Unit := ()
def PySem.W.Fast.tw10978428329303985719 : Unit := ()
def PySem.W.Fast.tw17884145616661283829 : Unit := ()
def PySem.W.Fast.tw5916804299509655034 : Unit := ()
def PySem.W.Fast.tw305102449195969358 : Unit := ()
def PySem.W.Fast.tw15923134008344571737 : Unit := ()
def PySem.W.Fast.tw12750722521231273451 : Unit := ()
def PySem.W.Fast.tw15866010867786371646 : Unit := ()
def PySem.W.Fast.tw9736308661942660320 : Unit := ()
def PySem.W.Fast.tw10252930650966263229 : Unit := ()
def PySem.W.Fast.tw13976486666567867940 : Unit := ()
def PySem.W.Fast.tw8354612398079174710 : Unit := ()
def PySem.W.Fast.tw12259217705556602246 : Unit := ()
def PySem.W.Fast.tw7107112980210705792 : Unit := ()
def PySem.W.Fast.tw15556482538943944158 : Unit := ()
def PySem.W.Fast.tw240427529325115534 : Unit := ()
def PySem.W.Fast.tw9768874733655289222 : Unit := ()
def PySem.W.Fast.tw5654198024429564062 : Unit := ()
def PySem.W.Fast.tw7239795261874860914 : Unit := ()
def PySem.W.Fast.tw16681183416531007462 : Unit := ()
def PySem.W.Fast.tw9576586084307691419 : Unit := ()
def PySem.W.Fast.tw883110818641464188 : Unit := ()
def PySem.W.Fast.tw3376118618094975777 : Unit := ()
def PySem.W.Fast.tw17200374364387451640 : Unit := ()
def PySem.W.Fast.tw11801027187565189767 : Unit := ()
def PySem.W.Fast.tw6150411642509653629 : Unit := ()
def PySem.W.Fast.tw1434681520643264464 : Unit := ()
def PySem.W.Fast.tw10963394983896411340 : Unit := ()
def PySem.W.Fast.tw6471014277884852613 : Unit := ()
def PySem.W.Fast.tw9451392436426956179 : Unit := ()
def PySem.W.Fast.tw9914458626522184363 : Unit := ()
def PySem.W.Fast.tw11776306111924270828 : Unit := ()
def PySem.W.Fast.tw13470823002186914996 : Unit := ()
def PySem.W.Fast.tw1340165954472409428 : Unit := ()
def PySem.W.Fast.tw4599151707163985296 : Unit := ()
def PySem.W.Fast.tw17188420178599511680 : Unit := ()
def PySem.W.Fast.tw5648269764923273639 : Unit := ()
def PySem.W.Fast.tw3475468476498799252 : Unit := ()
def PySem.W.Fast.tw4601253676048008246 : Unit := ()
def PySem.W.Fast.tw14705397762947568210 : Unit := ()
def PySem.W.Fast.tw11341313602254236906 : Unit := ()
def PySem.W.Fast.tw16243698407768717186 : Unit := ()
def PySem.W.Fast.tw15937117313706168292 : Unit := ()
def PySem.W.Fast.tw2700074083814574637 : Unit := ()
def PySem.W.Fast.tw5786138619986245650 : Unit := ()
def PySem.W.Fast.tw5075919735187670621 : Unit := ()
def PySem.W.Fast.tw12086961394287940100 : Unit := ()
def PySem.W.Fast.tw18036842701591909278 : Unit := ()
def PySem.W.Fast.tw5757575205582912837 : Unit := ()
def PySem.W.Fast.tw7210419397980301998 : Unit := ()
def PySem.W.Fast.tw9566685107813026215 : Unit := ()
def PySem.W.Fast.tw5528687651035508173 : Unit := ()
def PySem.W.Fast.tw10758129739419410457 : Unit := ()
def PySem.W.Fast.tw401114155729632405 : Unit := ()
def PySem.W.Fast.tw13849271623106183394 : Unit := ()
def PySem.W.Fast.tw5061975894200966379 : Unit := ()
def PySem.W.Fast.tw8961012415149036926 : Unit := ()
def PySem.W.Fast.tw2292306435660319452 : Unit := ()
def PySem.W.Fast.tw5121769967745633759 : Unit := ()
def PySem.W.Fast.tw6256910376459369363 : Unit := ()
def PySem.W.Fast.tw14716625133854240641 : Unit := ()
def PySem.W.Fast.tw2005370352202304765 : Unit := ()
def PySem.W.Fast.tw5784193587934997773 : Unit := ()
def PySem.W.Fast.tw17340819157775971965 : Unit := ()
def PySem.W.Fast.tw9964386046435209340 : Unit := ()
def PySem.W.Fast.tw4071012479837422803 : Unit := ()
def PySem.W.Fast.tw11069449459523136076 : Unit := ()
def PySem.W.Fast.tw7176190440023753542 : Unit := ()
def PySem.W.Fast.tw5039082964661966833 : Unit := ()
def PySem.W.Fast.tw17135508155277291914 : Unit := ()
def PySem.W.Fast.tw16437192265785374229 : Unit := ()
def PySem.W.Fast.tw7610060356762904613 : Unit := ()
def PySem.W.Fast.tw13278718549329304234 : Unit := ()
def PySem.W.Fast.tw17110400954466175107 : Unit := ()
def PySem.W.Fast.tw2388048677660252607 : Unit := ()
def PySem.W.Fast.tw16498245532773278774 : Unit := ()
def PySem.W.Fast.tw6037788839271800088 : Unit := ()
def PySem.W.Fast.tw8487232258386954649 : Unit := ()
def PySem.W.Fast.tw974857170775804354 : Unit := ()
def PySem.W.Fast.tw9103198065394263404 : Unit := ()
def PySem.W.Fast.tw14118579174407290578 : Unit := ()
def PySem.W.Fast.tw8602549153979598983 : Unit := ()
def PySem.W.Fast.tw61240200744802024 : Unit := ()
def PySem.W.Fast.tw5065665681275209615 : Unit := ()
def PySem.W.Fast.tw10612856781480196494 : Unit := ()
def PySem.W.Fast.tw1861518235397901546 : Unit := ()
def PySem.W.Fast.tw8985946923551171085 : Unit := ()
def PySem.W.Fast.tw1191820554223206730 : Unit := ()
def PySem.W.Fast.tw5456892064010466523 : Unit := ()
def PySem.W.Fast.tw12545859065550832700 : Unit := ()
def PySem.W.Fast.tw17409168451644988730 : Unit := ()
def PySem.W.Fast.tw7425549011751404588 : Unit := ()
def PySem.W.Fast.tw9970663587431376787 : Unit := ()
def PySem.W.Fast.tw16437225137920511544 : Unit := ()
def PySem.W.Fast.tw8519749630130480360 : Unit := ()
def PySem.W.Fast.tw9015843463288754738 : Unit := ()
def PySem.W.Fast.tw3997442887972539811 : Unit := ()
def PySem.W.Fast.tw11556325323612204951 : Unit := ()
def PySem.W.Fast.tw17471728104992620386 : Unit := ()
def PySem.W.Fast.tw3930372008146879805 : Unit := ()
def PySem.W.Fast.tw13034674970529204350 : Unit := ()
def PySem.W.Fast.tw10343362607328667161 : Unit := ()
def PySem.W.Fast.tw8275978479093560525 : Unit := ()
def PySem.W.Fast.tw8641413723753614052 : Unit := ()
def PySem.W.Fast.tw9140236926828036672 : Unit := ()
def PySem.W.Fast.tw112427241047974332 : Unit := ()
def PySem.W.Fast.tw17178452360379936685 : Unit := ()
def PySem.W.Fast.tw4336422112403757446 : Unit := ()
def PySem.W.Fast.tw4791504105023684988 : Unit := ()
def PySem.W.Fast.tw3978682552954771177 : Unit := ()
def PySem.W.Fast.tw10343515142959343585 : Unit := ()
def PySem.W.Fast.tw16175187970346350862 : Unit := ()
def PySem.W.Fast.tw18109680513440993040 : Unit := ()
def PySem.W.Fast.tw6245136864015208252 : Unit := ()
def PySem.W.Fast.tw3832000917103169345 : Unit := ()
def PySem.W.Fast.tw6313163055931166599 : Unit := ()
def PySem.W.Fast.tw11286951743683826999 : Unit := ()
def PySem.W.Fast.tw14555163163403633081 : Unit := ()
def PySem.W.Fast.tw13900428135942870432 : Unit := ()
def PySem.W.Fast.tw15907304295510482560 : Unit := ()
def PySem.W.Fast.tw13210492609562992099 : Unit := ()
def PySem.W.Fast.tw4027915814359853677 : Unit := ()
def PySem.W.Fast.tw3984091405711891676 : Unit := ()
def PySem.W.Fast.tw248470530618806892 : Unit := ()
def PySem.W.Fast.tw2015240979877145830 : Unit := ()
def PySem.W.Fast.tw6136760383306871974 : Unit := ()
def PySem.W.Fast.tw8159428776711287479 : Unit := ()
def PySem.W.Fast.tw10832940500766874414 : Unit := ()
def PySem.W.Fast.tw13691754363784522407 : Unit := ()
def PySem.W.Fast.tw6134864128279613226 : Unit := ()
def PySem.W.Fast.tw14151092548073644243 : Unit := ()
def PySem.W.Fast.tw3263630923064719650 : Unit := ()
def PySem.W.Fast.tw1139784053086076116 : Unit := ()
def PySem.W.Fast.tw3628326544763019635 : Unit := ()
def PySem.W.Fast.tw17009629401251171618 : Unit := ()
def PySem.W.Fast.tw9428017889705721050 : Unit := ()
def PySem.W.Fast.tw15309803591980960581 : Unit := ()
def PySem.W.Fast.tw3709659736580623545 : Unit := ()
def PySem.W.Fast.tw4101538910158540073 : Unit := ()
def PySem.W.Fast.tw8990216887725773761 : Unit := ()
def PySem.W.Fast.tw15836901406875975788 : Unit := ()
def PySem.W.Fast.tw8128525790672262223 : Unit := ()
def PySem.W.Fast.tw7080087673132557801 : Unit := ()
def PySem.W.Fast.tw17612091626570097957 : Unit := ()
def PySem.W.Fast.tw14388926014095462733 : Unit := ()
def PySem.W.Fast.tw649753360170090964 : Unit := ()
def PySem.W.Fast.tw14937140761096292623 : Unit := ()
def PySem.W.Fast.tw17595786213435517126 : Unit := ()
def PySem.W.Fast.tw15622428076360230771 : Unit := ()
def PySem.W.Fast.tw17666890893616015884 : Unit := ()
def PySem.W.Fast.tw7777615676865886584 : Unit := ()
def PySem.W.Fast.tw11589792680262050067 : Unit := ()
def PySem.W.Fast.tw3332116665402585553 : Unit := ()
def PySem.W.Fast.tw1145978547494442652 : Unit := ()
def PySem.W.Fast.tw13106685509142138706 : Unit := ()
def PySem.W.Fast.tw18282959636669265391 : Unit := ()
def PySem.W.Fast.tw11402080489373036295 : Unit := ()
def PySem.W.Fast.tw11993822776425648417 : Unit := ()
def PySem.W.Fast.tw5523514553121330699 : Unit := ()
def PySem.W.Fast.tw13601060816051223702 : Unit := ()
def PySem.W.Fast.tw11451838717356679545 : Unit := ()
def PySem.W.Fast.tw9124740173674683901 : Unit := ()
def PySem.W.Fast.tw3116835406743893562 : Unit := ()
def PySem.W.Fast.tw2750724179741453264 : Unit := ()
def PySem.W.Fast.tw8004187056134715813 : Unit := ()
def PySem.W.Fast.tw8751672673926155100 : Unit := ()
def PySem.W.Fast.tw2931731080353555767 : Unit := ()
def PySem.W.Fast.tw1487000464518462945 : Unit := ()
def PySem.W.Fast.tw3200125146733430652 : Unit := ()
def PySem.W.Fast.tw6768029538857590840 : Unit := ()
def PySem.W.Fast.tw8664782584192580208 : Unit := ()
def PySem.W.Fast.tw2775436191617194378 : Unit := ()
def PySem.W.Fast.tw18200178754804370689 : Unit := ()
def PySem.W.Fast.tw3651692449328239158 : Unit := ()
def PySem.W.Fast.tw1971237973600017871 : Unit := ()
def PySem.W.Fast.tw8134212996465102932 : Unit := ()
def PySem.W.Fast.tw6301684778523567019 : Unit := ()
def PySem.W.Fast.tw15337418517573291207 : Unit := ()
def PySem.W.Fast.tw14380074412430172916 : Unit := ()
def PySem.W.Fast.tw12113895590075796597 : Unit := ()
def PySem.W.Fast.tw11226760987162879384 : Unit := ()
def PySem.W.Fast.tw1613662756643694773 : Unit := ()
def PySem.W.Fast.tw16021100990036997104 : Unit := ()
def PySem.W.Fast.tw3058113534004552720 : Unit := ()
def PySem.W.Fast.tw15396267644884128468 : Unit := ()
def PySem.W.Fast.tw2328390923877399339 : Unit := ()
def PySem.W.Fast.tw3258729008455577366 : Unit := ()
def PySem.W.Fast.tw1538446829454358125 : Unit := ()
def PySem.W.Fast.tw16613892363771099801 : Unit := ()
def PySem.W.Fast.tw14421297128845460189 : Unit := ()
def PySem.W.Fast.tw11984362336049610637 : Unit := ()
def PySem.W.Fast.tw4509398358627989272 : Unit := ()
def PySem.W.Fast.tw297583571992012718 : Unit := ()
def PySem.W.Fast.tw2122772518837480246 : Unit := ()
def PySem.W.Fast.tw11844172313733668473 : Unit := ()
def PySem.W.Fast.tw6900299053237355566 : Unit := ()
def PySem.W.Fast.tw14739393581898435050 : Unit := ()
def PySem.W.Fast.tw3673828694199276796 : Unit := ()
def PySem.W.Fast.tw8814651008607687356 : Unit := ()
def PySem.W.Fast.tw11740005990761379068 : Unit := ()
def PySem.W.Fast.tw11332656466503001087 : Unit := ()
def PySem.W.Fast.tw8686237122644119104 : Unit := ()
def PySem.W.Fast.tw17038186164050530554 : Unit := ()
def PySem.W.Fast.tw876034266566336965 : Unit := ()
def PySem.W.Fast.tw3791033844876143860 : Unit := ()
def PySem.W.Fast.tw9598322468602818314 : Unit := ()
def PySem.W.Fast.tw5766026594135181623 : Unit := ()
def PySem.W.Fast.tw15949445712554491866 : Unit := ()
def PySem.W.Fast.tw3296849537201932834 : Unit := ()
def PySem.W.Fast.tw13084449416583773190 : Unit := ()
def PySem.W.Fast.tw18102789172641990393 : Unit := ()
def PySem.W.Fast.tw12654791039104442850 : Unit := ()
def PySem.W.Fast.tw15830392312064962580 : Unit := ()
def PySem.W.Fast.tw12268267647498515706 : Unit := ()
def PySem.W.Fast.tw6374533717495111014 : Unit := ()
def PySem.W.Fast.tw11893200842840590585 : Unit := ()
def PySem.W.Fast.tw8417781779261252681 : Unit := ()
def PySem.W.Fast.tw5367395373189723020 : Unit := ()
def PySem.W.Fast.tw2689169975346540272 : Unit := ()
def PySem.W.Fast.tw5357951377668055755 : Unit := ()
def PySem.W.Fast.tw3326374902132962118 : Unit := ()
def PySem.W.Fast.tw459075727595345418 : Unit := ()
def PySem.W.Fast.tw67411494172763710 : Unit := ()
def PySem.W.Fast.tw9446305513011131449 : Unit := ()
def PySem.W.Fast.tw17283068991859390891 : Unit := ()
def PySem.W.Fast.tw12689982234873240665 : Unit := ()
def PySem.W.Fast.tw6773797657337189489 : Unit := ()
def PySem.W.Fast.tw7599975046011453150 : Unit := ()
def PySem.W.Fast.tw12419006759150193057 : Unit := ()
def PySem.W.Fast.tw14893399620291151046 : Unit := ()
def PySem.W.Fast.tw16440205044312030173 : Unit := ()
def PySem.W.Fast.tw18034261550667049983 : Unit := ()
def PySem.W.Fast.tw13733762541286601645 : Unit := ()
def PySem.W.Fast.tw7438099091411920948 : Unit := ()
def PySem.W.Fast.tw16737215520875382819 : Unit := ()
def PySem.W.Fast.tw568028593561065722 : Unit := ()
def PySem.W.Fast.tw12751756632850860392 : Unit := ()
def PySem.W.Fast.tw12355128090212153468 : Unit := ()
def PySem.W.Fast.tw14101707816918163928 : Unit := ()
def PySem.W.Fast.tw15096590641777990682 : Unit := ()
def PySem.W.Fast.tw5061305442040105380 : Unit := ()
def PySem.W.Fast.tw8936512963287163418 : Unit := ()
def PySem.W.Fast.tw7008992829713639750 : Unit := ()
def PySem.W.Fast.tw6419703407233048163 : Unit := ()
def PySem.W.Fast.tw10913228662352522614 : Unit := ()
def PySem.W.Fast.tw7671151323377534111 : Unit := ()
def PySem.W.Fast.tw5391009838628389957 : Unit := ()
def PySem.W.Fast.tw14216817902577955700 : Unit := ()
def PySem.W.Fast.tw13595801096118818382 : Unit := ()
def PySem.W.Fast.tw6318309770659976115 : Unit := ()
def PySem.W.Fast.tw16601933717276338254 : Unit := ()
def PySem.W.Fast.tw13128323836422125959 : Unit := ()
def PySem.W.Fast.tw4252452386602579643 : Unit := ()
def PySem.W.Fast.tw14985365374429110881 : Unit := ()
def PySem.W.Fast.tw15843741156620416387 : Unit := ()
def PySem.W.Fast.tw6468193648008411388 : Unit := ()
def PySem.W.Fast.tw5999737593648564022 : Unit := ()
def PySem.W.Fast.tw17100723028777807558 : Unit := ()
def PySem.W.Fast.tw9631794505175755732 : Unit := ()
def PySem.W.Fast.tw12199526803555389572 : Unit := ()
def PySem.W.Fast.tw4728911505935177076 : Unit := ()
def PySem.W.Fast.tw12305516254756601060 : Unit := ()
def PySem.W.Fast.tw16052823714773913825 : Unit := ()
def PySem.W.Fast.tw3277561501681137511 : Unit := ()
def PySem.W.Fast.tw17024366898486612499 : Unit := ()
def PySem.W.Fast.tw94854437229475448 : Unit := ()
def PySem.W.Fast.tw11800081681211685301 : Unit := ()
def PySem.W.Fast.tw8338740906980134915 : Unit := ()
def PySem.W.Fast.tw15837124963871787964 : Unit := ()
def PySem.W.Fast.tw4078706451854289698 : Unit := ()
def PySem.W.Fast.tw14420092699057367096 : Unit := ()
def PySem.W.Fast.tw15109656360735179364 : Unit := ()
def PySem.W.Fast.tw2196432918561346046 : Unit := ()
def PySem.W.Fast.tw13160634720880304161 : Unit := ()
def PySem.W.Fast.tw2664658946877392848 : Unit := ()
def PySem.W.Fast.tw15210901131031092439 : Unit := ()
def PySem.W.Fast.tw7927636850669126747 : Unit := ()
def PySem.W.Fast.tw5039934520059575744 : Unit := ()
def PySem.W.Fast.tw7896624385978510832 : Unit := ()
def PySem.W.Fast.tw5546114111442496871 : Unit := ()
def PySem.W.Fast.tw13269972120891922497 : Unit := ()
def PySem.W.Fast.tw9944343152376149585 : Unit := ()
def PySem.W.Fast.tw10619291503068833493 : Unit := ()
def PySem.W.Fast.tw10862365456559465509 : Unit := ()
def PySem.W.Fast.tw2089461885605213336 : Unit := ()
def PySem.W.Fast.tw6419008977917342517 : Unit := ()
def PySem.W.Fast.tw14156406021369676376 : Unit := ()
def PySem.W.Fast.tw10005633826667554492 : Unit := ()
def PySem.W.Fast.tw17828059308058546183 : Unit := ()
def PySem.W.Fast.tw6410535254896278334 : Unit := ()
def PySem.W.Fast.tw5433572532905616950 : Unit := ()
def PySem.W.Fast.tw16958790154538245327 : Unit := ()
def PySem.W.Fast.tw12882516717531142958 : Unit := ()
def PySem.W.Fast.tw15154119372421687217 : Unit := ()
def PySem.W.Fast.tw11289596065926524008 : Unit := ()
def PySem.W.Fast.tw15186511115515998180 : Unit := ()
def PySem.W.Fast.tw5729587197633674794 : Unit := ()
def PySem.W.Fast.tw16155171208707290258 : Unit := ()
def PySem.W.Fast.tw1968398347462418881 : Unit := ()
def PySem.W.Fast.tw10348978179060062197 : Unit := ()
def PySem.W.Fast.tw5885949815236448799 : Unit := ()
def PySem.W.Fast.tw11746015390178498566 : Unit := ()
def PySem.W.Fast.tw9639816642515372906 : Unit := ()
def PySem.W.Fast.tw4911558428255657644 : Unit := ()
def PySem.W.Fast.tw1086939572954496990 : Unit := ()
def PySem.W.Fast.tw11300760778941663065 : Unit := ()
def PySem.W.Fast.tw16453342379153653117 : Unit := ()
def PySem.W.Fast.tw8820695576142188334 : Unit := ()
def PySem.W.Fast.tw16417595057652886648 : Unit := ()
def PySem.W.Fast.tw5081626126550788931 : Unit := ()
def PySem.W.Fast.tw18272470830480565241 : Unit := ()
def PySem.W.Fast.tw5605141898325562 : Unit := ()
def PySem.W.Fast.tw16626908625656307159 : Unit := ()
def PySem.W.Fast.tw409420559091532939 : Unit := ()
def PySem.W.Fast.tw1386271689572084338 : Unit := ()
def PySem.W.Fast.tw1198793499661385758 : Unit := ()
def PySem.W.Fast.tw15053162017440198058 : Unit := ()
def PySem.W.Fast.tw2383559087445480535 : Unit := ()
def PySem.W.Fast.tw14764704339179885472 : Unit := ()
def PySem.W.Fast.tw13922383326740208022 : Unit := ()
def PySem.W.Fast.tw5932656905119823265 : Unit := ()
def PySem.W.Fast.tw9102411446616883371 : Unit := ()
def PySem.W.Fast.tw7529658468144573846 : Unit := ()
def PySem.W.Fast.tw12251820075556889429 : Unit := ()
def PySem.W.Fast.tw13681175568338324372 : Unit := ()
def PySem.W.Fast.tw17545682396512417804 : Unit := ()
def PySem.W.Fast.tw6579474427558472960 : Unit := ()
def PySem.W.Fast.tw12628274489054281171 : Unit := ()
def PySem.W.Fast.tw16628326925122531041 : Unit := ()
def PySem.W.Fast.tw5570314068148020316 : Unit := ()
def PySem.W.Fast.tw14820991885379805464 : Unit := ()
def PySem.W.Fast.tw6321029083548023098 : Unit := ()
def PySem.W.Fast.tw16703295353455180414 : Unit := ()
def PySem.W.Fast.tw11956054025810735014 : Unit := ()
def PySem.W.Fast.tw4448624118601749148 : Unit := ()
def PySem.W.Fast.tw11411185823288396164 : Unit := ()
def PySem.W.Fast.tw2083420394242398424 : Unit := ()
def PySem.W.Fast.tw12143524773528591730 : Unit := ()
def PySem.W.Fast.tw3901775236944618930 : Unit := ()
def PySem.W.Fast.tw5876940685119683689 : Unit := ()
def PySem.W.Fast.tw1875067876289090615 : Unit := ()
def PySem.W.Fast.tw7613156242569137853 : Unit := ()
def PySem.W.Fast.tw9330954533997407908 : Unit := ()
def PySem.W.Fast.tw9588159390929598409 : Unit := ()
def PySem.W.Fast.tw8456831226978829454 : Unit := ()
def PySem.W.Fast.tw11692759271283553412 : Unit := ()
def PySem.W.Fast.tw811609990413419982 : Unit := ()
def PySem.W.Fast.tw16548122129186240896 : Unit := ()
def PySem.W.Fast.tw13845732449076107264 : Unit := ()
def PySem.W.Fast.tw8497031651458154880 : Unit := ()
def PySem.W.Fast.tw5102401979478943533 : Unit := ()
def PySem.W.Fast.tw5043032862458922724 : Unit := ()
def PySem.W.Fast.tw8473207656730541753 : Unit := ()
def PySem.W.Fast.tw15701893677866836347 : Unit := ()
def PySem.W.Fast.tw2937031921306681465 : Unit := ()
def PySem.W.Fast.tw4839200910207517139 : Unit := ()
def PySem.W.Fast.tw7537905591863366627 : Unit := ()
def PySem.W.Fast.tw8823215894935263847 : Unit := ()
def PySem.W.Fast.tw5029035914771214914 : Unit := ()
def PySem.W.Fast.tw4643651134844782295 : Unit := ()
def PySem.W.Fast.tw6571400106650548186 : Unit := ()
def PySem.W.Fast.tw11736115188765025667 : Unit := ()
def PySem.W.Fast.tw11919776847294928575 : Unit := ()
def PySem.W.Fast.tw4851311272922921982 : Unit := ()
def PySem.W.Fast.tw15393448643242377032 : Unit := ()
def PySem.W.Fast.tw4790907952212082715 : Unit := ()
def PySem.W.Fast.tw8740008152924020215 : Unit := ()
def PySem.W.Fast.tw2409641595183108369 : Unit := ()
def PySem.W.Fast.tw12437651952152416608 : Unit := ()
def PySem.W.Fast.tw10051852337739290369 : Unit := ()
def PySem.W.Fast.tw2106907971249079384 : Unit := ()
def PySem.W.Fast.tw17671680653473336509 : Unit := ()
def PySem.W.Fast.tw9648947308099782765 : Unit := ()
def PySem.W.Fast.tw4412280435624911823 : Unit := ()
def PySem.W.Fast.tw16856572466504945303 : Unit := ()
def PySem.W.Fast.tw1307986616228893322 : Unit := ()
def PySem.W.Fast.tw8628836691631263013 : Unit := ()
def PySem.W.Fast.tw6126251828909819920 : Unit := ()
def PySem.W.Fast.tw14836074650850161356 : Unit := ()
def PySem.W.Fast.tw6878375759155985028 : Unit := ()
def PySem.W.Fast.tw8760673889916209079 : Unit := ()
def PySem.W.Fast.tw15471996352027748894 : Unit := ()
def PySem.W.Fast.tw7260951008609654997 : Unit := ()
def PySem.W.Fast.tw13209613717703980178 : Unit := ()
def PySem.W.Fast.tw5201807449197196791 : Unit := ()
def PySem.W.Fast.tw10397382138937650316 : Unit := ()
def PySem.W.Fast.tw12394994282466887289 : Unit := ()
def PySem.W.Fast.tw14995657790354524170 : Unit := ()
def PySem.W.Fast.tw12849670699094016053 : Unit := ()
def PySem.W.Fast.tw16047531376849002842 : Unit := ()
def PySem.W.Fast.tw10291578844691665235 : Unit := ()
def PySem.W.Fast.tw6726044739229309446 : Unit := ()
def PySem.W.Fast.tw7951956837438214782 : Unit := ()
def PySem.W.Fast.tw13585616832363824828 : Unit := ()
def PySem.W.Fast.tw16859154027092664580 : Unit := ()
def PySem.W.Fast.tw11154274994009441824 : Unit := ()
def PySem.W.Fast.tw18246797784540395704 : Unit := ()
def PySem.W.Fast.tw12449484737617364459 : Unit := ()
def PySem.W.Fast.tw13720408485326538000 : Unit := ()
def PySem.W.Fast.tw11944179574718568977 : Unit := ()
def PySem.W.Fast.tw11819693571083138648 : Unit := ()
def PySem.W.Fast.tw3809003712035477531 : Unit := ()
def PySem.W.Fast.tw2228909166616969893 : Unit := ()
def PySem.W.Fast.tw17854024522426236712 : Unit := ()
def PySem.W.Fast.tw12798701400307070309 : Unit := ()
def PySem.W.Fast.tw1911230948429828254 : Unit := ()
def PySem.W.Fast.tw12613071843643369195 : Unit := ()
def PySem.W.Fast.tw4525230162784468010 : Unit := ()
def PySem.W.Fast.tw1941372298021198482 : Unit := ()
def PySem.W.Fast.tw6390560268756017239 : Unit := ()
def PySem.W.Fast.tw9916238647075864719 : Unit := ()
def PySem.W.Fast.tw16362859870694396996 : Unit := ()
def PySem.W.Fast.tw275256519607056420 : Unit := ()
def PySem.W.Fast.tw10209467712130532551 : Unit := ()
def PySem.W.Fast.tw11620756361323372102 : Unit := ()
def PySem.W.Fast.tw11268811474886897072 : Unit := ()
def PySem.W.Fast.tw6514658022487715540 : Unit := ()
def PySem.W.Fast.tw9954757714655250990 : Unit := ()
def PySem.W.Fast.tw2639806950546114446 : Unit := ()
def PySem.W.Fast.tw10348671296549536662 : Unit := ()
def PySem.W.Fast.tw438457505282037074 : Unit := ()
def PySem.W.Fast.tw14679510559334501339 : Unit := ()
def PySem.W.Fast.tw17631196158432569700 : Unit := ()
def PySem.W.Fast.tw13016896732175708156 : Unit := ()
def PySem.W.Fast.tw16895982956068883349 : Unit := ()
def PySem.W.Fast.tw15866893487791393310 : Unit := ()
def PySem.W.Fast.tw6167885322477792661 : Unit := ()
def PySem.W.Fast.tw3423450979874177319 : Unit := ()
def PySem.W.Fast.tw11468832760629746430 : Unit := ()
def PySem.W.Fast.tw15599756257792518695 : Unit := ()
def PySem.W.Fast.tw15180081970496334697 : Unit := ()
def PySem.W.Fast.tw3292869993674068045 : Unit := ()
def PySem.W.Fast.tw16730380446984615970 : Unit := ()
def PySem.W.Fast.tw1908326037469630786 : Unit := ()
def PySem.W.Fast.tw5038812442374953124 : Unit := ()
def PySem.W.Fast.tw13607004524887325992 : Unit := ()
def PySem.W.Fast.tw11076381059618815597 : Unit := ()
def PySem.W.Fast.tw1170755089330078029 : Unit := ()
def PySem.W.Fast.tw17089380173864527667 : Unit := ()
def PySem.W.Fast.tw15699916230837453725 : Unit := ()
def PySem.W.Fast.tw6961140808042259821 : Unit := ()
def PySem.W.Fast.tw3471011240303448866 : Unit := ()
def PySem.W.Fast.tw7916866061803487988 : Unit := ()
def PySem.W.Fast.tw1677062942875375269 : Unit := ()
def PySem.W.Fast.tw2258191073162156267 : Unit := ()
def PySem.W.Fast.tw37856555656227271 : Unit := ()
def PySem.W.Fast.tw13204411987997151912 : Unit := ()
def PySem.W.Fast.tw3646837518893900617 : Unit := ()
def PySem.W.Fast.tw10515529583567388555 : Unit := ()
def PySem.W.Fast.tw8556730544825860449 : Unit := ()
def PySem.W.Fast.tw10212514425598614690 : Unit := ()
def PySem.W.Fast.tw1899395909626284173 : Unit := ()
def PySem.W.Fast.tw4194033678791934400 : Unit := ()
def PySem.W.Fast.tw4107623819521090633 : Unit := ()
def PySem.W.Fast.tw6254313476388248279 : Unit := ()
def PySem.W.Fast.tw13921997608472331231 : Unit := ()
def PySem.W.Fast.tw13782407567806671064 : Unit := ()
def PySem.W.Fast.tw8664865919138591293 : Unit := ()
def PySem.W.Fast.tw4953838253907981026 : Unit := ()
def PySem.W.Fast.tw5291016469048554158 : Unit := ()
def PySem.W.Fast.tw11864081240034476509 : Unit := ()
def PySem.W.Fast.tw5334152718943283950 : Unit := ()
def PySem.W.Fast.tw4872991478759016459 : Unit := ()
def PySem.W.Fast.tw2072644798472917786 : Unit := ()
def PySem.W.Fast.tw8560843337499949356 : Unit := ()
def PySem.W.Fast.tw312389687916381805 : Unit := ()
def PySem.W.Fast.tw5003051324350854356 : Unit := ()
def PySem.W.Fast.tw18127378801370774499 : Unit := ()
def PySem.W.Fast.tw8974154978658698310 : Unit := ()
def PySem.W.Fast.tw7206584463393983876 : Unit := ()
def PySem.W.Fast.tw2324810085036178171 : Unit := ()
def PySem.W.Fast.tw4490196831519245931 : Unit := ()
def PySem.W.Fast.tw4838981031801245700 : Unit := ()
def PySem.W.Fast.tw13572927801547924018 : Unit := ()
def PySem.W.Fast.tw11866581458668899644 : Unit := ()
def PySem.W.Fast.tw16374893496083444239 : Unit := ()
def PySem.W.Fast.tw13179068153888318471 : Unit := ()
def PySem.W.Fast.tw15054465235373771448 : Unit := ()
def PySem.W.Fast.tw9266708980452983626 : Unit := ()
def PySem.W.Fast.tw17287366524008967664 : Unit := ()
def PySem.W.Fast.tw8929683629429693998 : Unit := ()
def PySem.W.Fast.tw17789894327804785226 : Unit := ()
def PySem.W.Fast.tw15784182260650356168 : Unit := ()
def PySem.W.Fast.tw5334234518957298841 : Unit := ()
def PySem.W.Fast.tw13663276456235828588 : Unit := ()
def PySem.W.Fast.tw14623317891131260719 : Unit := ()
def PySem.W.Fast.tw17690359035290095430 : Unit := ()
def PySem.W.Fast.tw5943577437462050568 : Unit := ()
def PySem.W.Fast.tw11325032511883049838 : Unit := ()
def PySem.W.Fast.tw10544148129814560601 : Unit := ()
def PySem.W.Fast.tw8351105379530024917 : Unit := ()
def PySem.W.Fast.tw1781061233453934373 : Unit := ()
def PySem.W.Fast.tw5970361504819283890 : Unit := ()
def PySem.W.Fast.tw5738017000262672158 : Unit := ()
def PySem.W.Fast.tw4038454802187215231 : Unit := ()
def PySem.W.Fast.tw2717105886377250409 : Unit := ()
def PySem.W.Fast.tw11187222687456411836 : Unit := ()
def PySem.W.Fast.tw7447428932841685627 : Unit := ()
def PySem.W.Fast.tw16039207399708531839 : Unit := ()
def PySem.W.Fast.tw8439969211290165710 : Unit := ()
def PySem.W.Fast.tw11385444089456450562 : Unit := ()
def PySem.W.Fast.tw907339534459251390 : Unit := ()
def PySem.W.Fast.tw8732462452689326812 : Unit := ()
def PySem.W.Fast.tw5669425964705965673 : Unit := ()
def PySem.W.Fast.tw12885272574318022077 : Unit := ()
def PySem.W.Fast.tw13822444114827329832 : Unit := ()
def PySem.W.Fast.tw9786416671467638331 : Unit := ()
def PySem.W.Fast.tw1735692435459668353 : Unit := ()
def PySem.W.Fast.tw17638080531977077625 : Unit := ()
def PySem.W.Fast.tw13020949166474054817 : Unit := ()
def PySem.W.Fast.tw18151806234482304999 : Unit := ()
def PySem.W.Fast.tw11198826193996538128 : Unit := ()
def PySem.W.Fast.tw4613995156933697100 : Unit := ()
def PySem.W.Fast.tw16260405340541499269 : Unit := ()
def PySem.W.Fast.tw5748483394764864029 : Unit := ()
def PySem.W.Fast.tw16305358675774872446 : Unit := ()
def PySem.W.Fast.tw11573682149258955503 : Unit := ()
def PySem.W.Fast.tw289262642806467099 : Unit := ()
def PySem.W.Fast.tw1998992478177480767 : Unit := ()
def PySem.W.Fast.tw8149984534762385740 : Unit := ()
def PySem.W.Fast.tw327787626914342768 : Unit := ()
def PySem.W.Fast.tw14992173106487985809 : Unit := ()
def PySem.W.Fast.tw11202615625507425082 : Unit := ()
def PySem.W.Fast.tw18136356984533465571 : Unit := ()
def PySem.W.Fast.tw129026765303894268 : Unit := ()
def PySem.W.Fast.tw11176046751521250155 : Unit := ()
def PySem.W.Fast.tw9029171989522174190 : Unit := ()
def PySem.W.Fast.tw6689074437478726654 : Unit := ()
def PySem.W.Fast.tw10617103845125555470 : Unit := ()
def PySem.W.Fast.tw1284502399476157945 : Unit := ()
def PySem.W.Fast.tw2346488833548603520 : Unit := ()
def PySem.W.Fast.tw8267608569798859355 : Unit := ()
def PySem.W.Fast.tw48939830548679049 : Unit := ()
def PySem.W.Fast.tw4680490444539884288 : Unit := ()
def PySem.W.Fast.tw12828465918839367087 : Unit := ()
def PySem.W.Fast.tw4532945830867307474 : Unit := ()
def PySem.W.Fast.tw2532782276918392985 : Unit := ()
def PySem.W.Fast.tw10132505419181905763 : Unit := ()
def PySem.W.Fast.tw13846216699108713083 : Unit := ()
def PySem.W.Fast.tw1523085133934509235 : Unit := ()
def PySem.W.Fast.tw2675431112563315817 : Unit := ()
def PySem.W.Fast.tw12244286554287879408 : Unit := ()
def PySem.W.Fast.tw2439538220558926106 : Unit := ()
def PySem.W.Fast.tw12876695018291829100 : Unit := ()
def PySem.W.Fast.tw3637564145390885542 : Unit := ()
def PySem.W.Fast.tw15179088984946360443 : Unit := ()
def PySem.W.Fast.tw9116837305708954678 : Unit := ()
def PySem.W.Fast.tw7588124040511618299 : Unit := ()
def PySem.W.Fast.tw18027962494718673935 : Unit := ()
def PySem.W.Fast.tw9138450281980680405 : Unit := ()
def PySem.W.Fast.tw2928138908845167010 : Unit := ()
def PySem.W.Fast.tw13513351682180983009 : Unit := ()
def PySem.W.Fast.tw6783737419766331270 : Unit := ()
def PySem.W.Fast.tw14819596656519958069 : Unit := ()
def PySem.W.Fast.tw17920441020595429266 : Unit := ()
def PySem.W.Fast.tw6046269899527878715 : Unit := ()
def PySem.W.Fast.tw12549607350616635272 : Unit := ()
def PySem.W.Fast.tw11803729921774196089 : Unit := ()
def PySem.W.Fast.tw17109530224998365549 : Unit := ()
def PySem.W.Fast.tw14021517485290045136 : Unit := ()
def PySem.W.Fast.tw15957213462966676699 : Unit := ()
def PySem.W.Fast.tw8237167016777908586 : Unit := ()
def PySem.W.Fast.tw17920721981482445465 : Unit := ()
def PySem.W.Fast.tw1853235665770890482 : Unit := ()
def PySem.W.Fast.tw14049969292425779570 : Unit := ()
def PySem.W.Fast.tw6523166577540498821 : Unit := ()
def PySem.W.Fast.tw4841966147612704625 : Unit := ()
def PySem.W.Fast.tw7104832586760202740 : Unit := ()
def PySem.W.Fast.tw14295558606762862542 : Unit := ()
def PySem.W.Fast.tw17474401514117025736 : Unit := ()
def PySem.W.Fast.tw12137482310530008849 : Unit := ()
def PySem.W.Fast.tw13669923984029457261 : Unit := ()
def PySem.W.Fast.tw16241092090832083525 : Unit := ()
def PySem.W.Fast.tw1884463084482374789 : Unit := ()
def PySem.W.Fast.tw12171114721185911728 : Unit := ()
def PySem.W.Fast.tw42211548542797053 : Unit := ()
def PySem.W.Fast.tw7488212771179344387 : Unit := ()
def PySem.W.Fast.tw3865521840225034658 : Unit := ()
def PySem.W.Fast.tw15997084835193257627 : Unit := ()
def PySem.W.Fast.tw2074383686605834007 : Unit := ()
def PySem.W.Fast.tw6099576257780229597 : Unit := ()
def PySem.W.Fast.tw12920349948048160732 : Unit := ()
def PySem.W.Fast.tw4987331191417360308 : Unit := ()
def PySem.W.Fast.tw11144805449390110278 : Unit := ()
def PySem.W.Fast.tw3463047280794512386 : Unit := ()
def PySem.W.Fast.tw6949449385743725449 : Unit := ()
def PySem.W.Fast.tw12327863255561601205 : Unit := ()
def PySem.W.Fast.tw5095928441817925292 : Unit := ()
def PySem.W.Fast.tw4438417478396228384 : Unit := ()
def PySem.W.Fast.tw8165144606484733647 : Unit := ()
def PySem.W.Fast.tw693268549540212030 : Unit := ()
def PySem.W.Fast.tw13183065230912192039 : Unit := ()
def PySem.W.Fast.tw14573375194510574453 : Unit := ()
def PySem.W.Fast.tw14116068653929470656 : Unit := ()
def PySem.W.Fast.tw6222019509078691825 : Unit := ()
def PySem.W.Fast.tw7956145532544548923 : Unit := ()
def PySem.W.Fast.tw1368086582569968452 : Unit := ()
def PySem.W.Fast.tw5647746821468864584 : Unit := ()
def PySem.W.Fast.tw1651738331813906727 : Unit := ()
def PySem.W.Fast.tw17749442922346100522 : Unit := ()
def PySem.W.Fast.tw7135408721432096544 : Unit := ()
def PySem.W.Fast.tw13215326141854239149 : Unit := ()
def PySem.W.Fast.tw2447624048477626526 : Unit := ()
def PySem.W.Fast.tw13840446622724795920 : Unit := ()
def PySem.W.Fast.tw3009110930765388277 : Unit := ()
def PySem.W.Fast.tw18160630691806141215 : Unit := ()
def PySem.W.Fast.tw18431582693463830449 : Unit := ()
def PySem.W.Fast.tw7245813906821790014 : Unit := ()
def PySem.W.Fast.tw18121873988782757549 : Unit := ()
def PySem.W.Fast.tw17005589849772381292 : Unit := ()
def PySem.W.Fast.tw6659104121944548093 : Unit := ()
def PySem.W.Fast.tw15990100295910052048 : Unit := ()
def PySem.W.Fast.tw11505021235854717239 : Unit := ()
def PySem.W.Fast.tw6094134157988683157 : Unit := ()
def PySem.W.Fast.tw18072519553868225532 : Unit := ()
def PySem.W.Fast.tw16167037069868908674 : Unit := ()
def PySem.W.Fast.tw14346791509538760632 : Unit := ()
def PySem.W.Fast.tw10868321568973259252 : Unit := ()
def PySem.W.Fast.tw12029830851226544754 : Unit := ()
def PySem.W.Fast.tw5486893801527933224 : Unit := ()
def PySem.W.Fast.tw13462724454470532611 : Unit := ()
def PySem.W.Fast.tw13381658755778822449 : Unit := ()
def PySem.W.Fast.tw4203610584656468274 : Unit := ()
def PySem.W.Fast.tw950601629204834300 : Unit := ()
def PySem.W.Fast.tw1844031545442140120 : Unit := ()
def PySem.W.Fast.tw12974166477565149219 : Unit := ()
def PySem.W.Fast.tw13131451345228218472 : Unit := ()
def PySem.W.Fast.tw2288024903411378832 : Unit := ()
def PySem.W.Fast.tw8875965910943631287 : Unit := ()
def PySem.W.Fast.tw9157280872505546130 : Unit := ()
def PySem.W.Fast.tw15365177878812933462 : Unit := ()
def PySem.W.Fast.tw4715874783134932417 : Unit := ()
def PySem.W.Fast.tw16213285128507218283 : Unit := ()
def PySem.W.Fast.tw14411155585121743255 : Unit := ()
def PySem.W.Fast.tw15004044465566131337 : Unit := ()
def PySem.W.Fast.tw17340241627211931560 : Unit := ()
def PySem.W.Fast.tw817367374843592849 : Unit := ()
def PySem.W.Fast.tw1397933863339293335 : Unit := ()
def PySem.W.Fast.tw15704163770791973461 : Unit := ()
def PySem.W.Fast.tw1183111516786025580 : Unit := ()
def PySem.W.Fast.tw156987432281261915 : Unit := ()
def PySem.W.Fast.tw11478479466582875568 : Unit := ()
def PySem.W.Fast.tw1891587339174855999 : Unit := ()
def PySem.W.Fast.tw3467815220918950967 : Unit := ()
def PySem.W.Fast.tw8288203354061315613 : Unit := ()
def PySem.W.Fast.tw785211636825101361 : Unit := ()
def PySem.W.Fast.tw2114000811566783468 : Unit := ()
def PySem.W.Fast.tw4595751401727680903 : Unit := ()
def PySem.W.Fast.tw2770774562497825944 : Unit := ()
def PySem.W.Fast.tw10110573524636065551 : Unit := ()
def PySem.W.Fast.tw6803163887536281919 : Unit := ()
def PySem.W.Fast.tw2978264340972931086 : Unit := ()
def PySem.W.Fast.tw9390897523574808448 : Unit := ()
def PySem.W.Fast.tw5331935243757613694 : Unit := ()
def PySem.W.Fast.tw11732713335872490711 : Unit := ()
def PySem.W.Fast.tw11136580351743214344 : Unit := ()
def PySem.W.Fast.tw8034343998228114545 : Unit := ()
def PySem.W.Fast.tw7302256562018130098 : Unit := ()
def PySem.W.Fast.tw11413197304902643322 : Unit := ()
def PySem.W.Fast.tw7214403587102191409 : Unit := ()
def PySem.W.Fast.tw11929545132318895778 : Unit := ()
def PySem.W.Fast.tw1964187710962819382 : Unit := ()
def PySem.W.Fast.tw16171081531433573768 : Unit := ()
def PySem.W.Fast.tw456636833365594632 : Unit := ()
def PySem.W.Fast.tw475728740755028784 : Unit := ()
def PySem.W.Fast.tw6590846533439175702 : Unit := ()
def PySem.W.Fast.tw9181460264589185900 : Unit := ()
def PySem.W.Fast.tw11211972591995993434 : Unit := ()
def PySem.W.Fast.tw2720944305918096684 : Unit := ()
def PySem.W.Fast.tw1911064262599421759 : Unit := ()
def PySem.W.Fast.tw9361699574105051510 : Unit := ()
def PySem.W.Fast.tw6782444038264110164 : Unit := ()
def PySem.W.Fast.tw4934899764224658373 : Unit := ()
def PySem.W.Fast.tw4808265134288560831 : Unit := ()
def PySem.W.Fast.tw9361381617826574667 : Unit := ()
def PySem.W.Fast.tw9031358752842393486 : Unit := ()
def PySem.W.Fast.tw4715271440522672695 : Unit := ()
def PySem.W.Fast.tw13169234342190378821 : Unit := ()
def PySem.W.Fast.tw14953170050631073472 : Unit := ()
def PySem.W.Fast.tw404767817003980626 : Unit := ()
def PySem.W.Fast.tw16010445338678590299 : Unit := ()
def PySem.W.Fast.tw794147442976687704 : Unit := ()
def PySem.W.Fast.tw6614190676672650923 : Unit := ()
def PySem.W.Fast.tw14073066142038695415 : Unit := ()
def PySem.W.Fast.tw11062838964157109176 : Unit := ()
def PySem.W.Fast.tw17307307094923631426 : Unit := ()
def PySem.W.Fast.tw1244224105827497359 : Unit := ()
def PySem.W.Fast.tw13016733097640788811 : Unit := ()
def PySem.W.Fast.tw879654987733839415 : Unit := ()
def PySem.W.Fast.tw4787253369021111180 : Unit := ()
def PySem.W.Fast.tw18078272235952905312 : Unit := ()
def PySem.W.Fast.tw10204345957512038009 : Unit := ()
def PySem.W.Fast.tw7582070405315253823 : Unit := ()
def PySem.W.Fast.tw7588182985735902949 : Unit := ()
def PySem.W.Fast.tw10206540153720449329 : Unit := ()
def PySem.W.Fast.tw195879765018693688 : Unit := ()
def PySem.W.Fast.tw13516741529561680905 : Unit := ()
def PySem.W.Fast.tw12020075025376781201 : Unit := ()
def PySem.W.Fast.tw14080574337939247850 : Unit := ()
def PySem.W.Fast.tw16839839082761221507 : Unit := ()
def PySem.W.Fast.tw1300945168990945672 : Unit := ()
def PySem.W.Fast.tw13089757141746258364 : Unit := ()
def PySem.W.Fast.tw12446219984395615391 : Unit := ()
def PySem.W.Fast.tw6222369275345056964 : Unit := ()
def PySem.W.Fast.tw2590194646649148930 : Unit := ()
def PySem.W.Fast.tw7978742654815081849 : Unit := ()
def PySem.W.Fast.tw10819096911187167680 : Unit := ()
def PySem.W.Fast.tw18053569086594060215 : Unit := ()
def PySem.W.Fast.tw3532419053487318765 : Unit := ()
def PySem.W.Fast.tw6139662899850831491 : Unit := ()
def PySem.W.Fast.tw16527074628862022933 : Unit := ()
def PySem.W.Fast.tw14418223212551065626 : Unit := ()
def PySem.W.Fast.tw11910202209641421778 : Unit := ()
def PySem.W.Fast.tw4125044198660665985 : Unit := ()
def PySem.W.Fast.tw10813897114081056670 : Unit := ()
def PySem.W.Fast.tw2480291515117707603 : Unit := ()
def PySem.W.Fast.tw2599936816257005286 : Unit := ()
def PySem.W.Fast.tw13354654413086541044 : Unit := ()
def PySem.W.Fast.tw2656239416229491885 : Unit := ()
def PySem.W.Fast.tw1979440692203937443 : Unit := ()
def PySem.W.Fast.tw8059024836134296400 : Unit := ()
def PySem.W.Fast.tw16570584873087190477 : Unit := ()
def PySem.W.Fast.tw16909216213866572312 : Unit := ()
def PySem.W.Fast.tw12964994648727183689 : Unit := ()
def PySem.W.Fast.tw1571166765992488568 : Unit := ()
def PySem.W.Fast.tw15836041332403644967 : Unit := ()
def PySem.W.Fast.tw5201708491030930474 : Unit := ()
def PySem.W.Fast.tw11427580847937770733 : Unit := ()
def PySem.W.Fast.tw14814898638947884680 : Unit := ()
def PySem.W.Fast.tw1871443717633957967 : Unit := ()
def PySem.W.Fast.tw15745457178617477942 : Unit := ()
def PySem.W.Fast.tw12840500861026295886 : Unit := ()
def PySem.W.Fast.tw10905803524725731120 : Unit := ()
def PySem.W.Fast.tw14698088153824592287 : Unit := ()
def PySem.W.Fast.tw9905817929586354991 : Unit := ()
def PySem.W.Fast.tw13228065930959595281 : Unit := ()
def PySem.W.Fast.tw9048766736347016508 : Unit := ()
def PySem.W.Fast.tw15723573838732004604 : Unit := ()
def PySem.W.Fast.tw17083312468474984979 : Unit := ()
def PySem.W.Fast.tw15465632509805644062 : Unit := ()
def PySem.W.Fast.tw2527385435260488102 : Unit := ()
def PySem.W.Fast.tw8084190826293825679 : Unit := ()
def PySem.W.Fast.tw7293274846405064500 : Unit := ()
def PySem.W.Fast.tw2491206855877871705 : Unit := ()
def PySem.W.Fast.tw9597594596148215190 : Unit := ()
def PySem.W.Fast.tw15428391744084823119 : Unit := ()
def PySem.W.Fast.tw11883924451134117932 : Unit := ()
def PySem.W.Fast.tw8561619198842034791 : Unit := ()
def PySem.W.Fast.tw15144088968851792614 : Unit := ()
def PySem.W.Fast.tw8856051583752602676 : Unit := ()
def PySem.W.Fast.tw7863693758142386956 : Unit := ()
def PySem.W.Fast.tw18036133458053072463 : Unit := ()
def PySem.W.Fast.tw10703114269991466845 : Unit := ()
def PySem.W.Fast.tw9010817978746736450 : Unit := ()
def PySem.W.Fast.tw4119981911636191803 : Unit := ()
def PySem.W.Fast.tw17081112968849437888 : Unit := ()
def PySem.W.Fast.tw4369500410327669586 : Unit := ()
def PySem.W.Fast.tw7392452020921374902 : Unit := ()
def PySem.W.Fast.tw1200697004625233503 : Unit := ()
def PySem.W.Fast.tw4729108621468354966 : Unit := ()
def PySem.W.Fast.tw1601026716075171649 : Unit := ()
def PySem.W.Fast.tw13073847368998553416 : Unit := ()
def PySem.W.Fast.tw5212011273063190595 : Unit := ()
def PySem.W.Fast.tw15341117721837715011 : Unit := ()
def PySem.W.Fast.tw17810839905300261946 : Unit := ()
def PySem.W.Fast.tw15936954673032172169 : Unit := ()
def PySem.W.Fast.tw17017869018478151579 : Unit := ()
def PySem.W.Fast.tw15903094783971728916 : Unit := ()
def PySem.W.Fast.tw6190482943202859919 : Unit := ()
def PySem.W.Fast.tw18402876211720106240 : Unit := ()
def PySem.W.Fast.tw14395223288603853217 : Unit := ()
def PySem.W.Fast.tw15703929265917004222 : Unit := ()
def PySem.W.Fast.tw12795791083420453821 : Unit := ()
def PySem.W.Fast.tw3837598478769965093 : Unit := ()
def PySem.W.Fast.tw900790774209584732 : Unit := ()
def PySem.W.Fast.tw8304440542415457838 : Unit := ()
def PySem.W.Fast.tw8624180630441561549 : Unit := ()
def PySem.W.Fast.tw17584590175918355085 : Unit := ()
def PySem.W.Fast.tw14388287329158374751 : Unit := ()
def PySem.W.Fast.tw15737302121751724620 : Unit := ()
def PySem.W.Fast.tw12217723035892077722 : Unit := ()
def PySem.W.Fast.tw15757192822311046885 : Unit := ()
def PySem.W.Fast.tw11115183098910915444 : Unit := ()
def PySem.W.Fast.tw5670654202811985174 : Unit := ()
def PySem.W.Fast.tw5770480034959186488 : Unit := ()
def PySem.W.Fast.tw7078257859807178228 : Unit := ()
def PySem.W.Fast.tw7975553931232836255 : Unit := ()
def PySem.W.Fast.tw15519600701579499137 : Unit := ()
def PySem.W.Fast.tw11889792230210828735 : Unit := ()
def PySem.W.Fast.tw6063818562975831460 : Unit := ()
def PySem.W.Fast.tw13564224646482511578 : Unit := ()
def PySem.W.Fast.tw14412966679905183511 : Unit := ()
def PySem.W.Fast.tw15383065667927178592 : Unit := ()
def PySem.W.Fast.tw9114080322307048534 : Unit := ()
def PySem.W.Fast.tw6128824020697759995 : Unit := ()
def PySem.W.Fast.tw13936152090724480620 : Unit := ()
def PySem.W.Fast.tw3195561235834728405 : Unit := ()
def PySem.W.Fast.tw1335858581828820009 : Unit := ()
def PySem.W.Fast.tw3031680984793987563 : Unit := ()
def PySem.W.Fast.tw18334998089402988203 : Unit := ()
def PySem.W.Fast.tw156274336363838704 : Unit := ()
def PySem.W.Fast.tw267353404566386570 : Unit := ()
def PySem.W.Fast.tw10052879808041627071 : Unit := ()
def PySem.W.Fast.tw9106066413548900434 : Unit := ()
def PySem.W.Fast.tw15846637171105701799 : Unit := ()
def PySem.W.Fast.tw17297093750165204455 : Unit := ()
def PySem.W.Fast.tw10562945474040391188 : Unit := ()
def PySem.W.Fast.tw4803821090493432172 : Unit := ()
def PySem.W.Fast.tw5581945658622646245 : Unit := ()
def PySem.W.Fast.tw10697306351911786272 : Unit := ()
def PySem.W.Fast.tw2529317792844054488 : Unit := ()
def PySem.W.Fast.tw8039051680183955884 : Unit := ()
def PySem.W.Fast.tw5719646079968009510 : Unit := ()
def PySem.W.Fast.tw8270958846562424627 : Unit := ()
def PySem.W.Fast.tw16345790882553632620 : Unit := ()
def PySem.W.Fast.tw17075635638342219142 : Unit := ()
def PySem.W.Fast.tw15662649844236298872 : Unit := ()
def PySem.W.Fast.tw12251553332961282914 : Unit := ()
def PySem.W.Fast.tw11051670313376373486 : Unit := ()
def PySem.W.Fast.tw684009529321822111 : Unit := ()
def PySem.W.Fast.tw2085450117127798773 : Unit := ()
def PySem.W.Fast.tw9536644519110900318 : Unit := ()
def PySem.W.Fast.tw4030488054247338513 : Unit := ()
def PySem.W.Fast.tw14685436238234816536 : Unit := ()
def PySem.W.Fast.tw12824905815394907968 : Unit := ()
def PySem.W.Fast.tw11839905583648270588 : Unit := ()
def PySem.W.Fast.tw7695431091529937153 : Unit := ()
def PySem.W.Fast.tw15663602937177717678 : Unit := ()
def PySem.W.Fast.tw5474606426032467910 : Unit := ()
def PySem.W.Fast.tw10729248419902643342 : Unit := ()
def PySem.W.Fast.tw18432971704977733925 : Unit := ()
def PySem.W.Fast.tw10373725361962198445 : Unit := ()
def PySem.W.Fast.tw10956526825687659983 : Unit := ()
def PySem.W.Fast.tw14879652433690699008 : Unit := ()
def PySem.W.Fast.tw16635098017919838702 : Unit := ()
def PySem.W.Fast.tw3313272647053739114 : Unit := ()
def PySem.W.Fast.tw16572636030236234684 : Unit := ()
def PySem.W.Fast.tw1647335858807015012 : Unit := ()
def PySem.W.Fast.tw10523800418072136139 : Unit := ()
def PySem.W.Fast.tw6211692286114450806 : Unit := ()
def PySem.W.Fast.tw7681518894288418789 : Unit := ()
def PySem.W.Fast.tw1251319459554875063 : Unit := ()
def PySem.W.Fast.tw9509438771364989562 : Unit := ()
def PySem.W.Fast.tw12751251771140683573 : Unit := ()
def PySem.W.Fast.tw12691041040127483076 : Unit := ()
def PySem.W.Fast.tw11854290136706231869 : Unit := ()
def PySem.W.Fast.tw4482195144902030091 : Unit := ()
def PySem.W.Fast.tw13831173763528402054 : Unit := ()
def PySem.W.Fast.tw1852646347621460018 : Unit := ()
def PySem.W.Fast.tw18308201534371424871 : Unit := ()
def PySem.W.Fast.tw17354509701323514702 : Unit := ()
def PySem.W.Fast.tw12826448252462029809 : Unit := ()
def PySem.W.Fast.tw9626073429019724544 : Unit := ()
def PySem.W.Fast.tw821463116510498889 : Unit := ()
def PySem.W.Fast.tw13081749494294362291 : Unit := ()
def PySem.W.Fast.tw12599943708669343304 : Unit := ()
def PySem.W.Fast.tw3716019148131069719 : Unit := ()
def PySem.W.Fast.tw15556319592882965711 : Unit := ()
def PySem.W.Fast.tw9414371760466613477 : Unit := ()
def PySem.W.Fast.tw1332013810826062120 : Unit := ()
def PySem.W.Fast.tw13615364718995832549 : Unit := ()
def PySem.W.Fast.tw17446078741274959437 : Unit := ()
def PySem.W.Fast.tw4728773499890937994 : Unit := ()
def PySem.W.Fast.tw6848908100173092071 : Unit := ()
def PySem.W.Fast.tw4679921135949153332 : Unit := ()
def PySem.W.Fast.tw16445746176482690828 : Unit := ()
def PySem.W.Fast.tw7351308984907066017 : Unit := ()
def PySem.W.Fast.tw17179527808859280763 : Unit := ()
def PySem.W.Fast.tw3816803864403067638 : Unit := ()
def PySem.W.Fast.tw15829919670021880043 : Unit := ()
def PySem.W.Fast.tw5112323547234455397 : Unit := ()
def PySem.W.Fast.tw523770699480905814 : Unit := ()
def PySem.W.Fast.tw14187159471243018727 : Unit := ()
def PySem.W.Fast.tw9391181125897254304 : Unit := ()
def PySem.W.Fast.tw17098014809914875908 : Unit := ()
def PySem.W.Fast.tw1919025072716351409 : Unit := ()
def PySem.W.Fast.tw10164525699437728020 : Unit := ()
def PySem.W.Fast.tw8580278572312639014 : Unit := ()
def PySem.W.Fast.tw6637395576166374882 : Unit := ()
def PySem.W.Fast.tw16643387330074052824 : Unit := ()
def PySem.W.Fast.tw2238481658431212969 : Unit := ()
def PySem.W.Fast.tw5086246037414211648 : Unit := ()
def PySem.W.Fast.tw18127938464357063887 : Unit := ()
def PySem.W.Fast.tw15542535478903753696 : Unit := ()
def PySem.W.Fast.tw17370146603492056318 : Unit := ()
def PySem.W.Fast.tw14875030606080546981 : Unit := ()
def PySem.W.Fast.tw17171480963821208739 : Unit := ()
def PySem.W.Fast.tw17843664413637081946 : Unit := ()
def PySem.W.Fast.tw15912565958993707665 : Unit := ()
def PySem.W.Fast.tw13603897732253094850 : Unit := ()
def PySem.W.Fast.tw6101873495626397517 : Unit := ()
def PySem.W.Fast.tw4702125537867768785 : Unit := ()
def PySem.W.Fast.tw718563222301427063 : Unit := ()
def PySem.W.Fast.tw2089598577318948825 : Unit := ()
def PySem.W.Fast.tw5405759565579465130 : Unit := ()
def PySem.W.Fast.tw11785270890068169827 : Unit := ()
def PySem.W.Fast.tw14545974310178824229 : Unit := ()
def PySem.W.Fast.tw4132921386044456542 : Unit := ()
def PySem.W.Fast.tw3122162093589776383 : Unit := ()
def PySem.W.Fast.tw14302624297713844446 : Unit := ()
def PySem.W.Fast.tw15645356346675992821 : Unit := ()
def PySem.W.Fast.tw18269600014209696856 : Unit := ()
def PySem.W.Fast.tw18092593562535857909 : Unit := ()
def PySem.W.Fast.tw1617892266152705170 : Unit := ()
def PySem.W.Fast.tw9759166862435134865 : Unit := ()
def PySem.W.Fast.tw15713743642651984746 : Unit := ()
def PySem.W.Fast.tw16425745960427707781 : Unit := ()
set_option maxHeartbeats 0 in
open_top hd for PySem.Challenge.rw_downpass_k21_events
set_option maxHeartbeats 0 in
theorem PySem.Challenge.cw_downpass_k21_events_holds : PySem.Challenge.rw_downpass_k21_events.Holds := by
  refine hd ?_
  k_fill
  refine L2.walk_of (l := PySem.Challenge.rw_downpass_k21_events) (n := 63) (k := 10) (x := "script") (CX := fun _ => L2.CX0) (sp := fun w => DP.spLaw _) rfl (by decide) rfl ⟨rfl, by decide, by decide⟩ (fun w h Y => PySem.W.kIn_of Y) ?F (fun _ _ a ns hl _ hS => ⟨a, ns, rfl, hS, fun _ => rfl⟩) (fun _ _ _ _ _ h => h)
  case F =>
    intro w mg fa h KX G hmg
    refine' DP.fin hmg ⟨⟨⟨?z_len, ?z_range, ?z_int, ?z_abs, ?z_isinstance, ?z_bool, ?z_str, ?z_tuple, ?z_list, ?z_min, ?z_all, ?z_enumerate⟩, ?c_Line, ?n_Line_number, ?n_Line_words, ?n_Line_read, ?n_Line_column, ?g_LETTERS, ?g_DIGITS, ?g_MOST_NAME, ?g_MOST_DIGITS⟩, ?c_Satellite, ?c_Station, ?c_Recording, ?c_Pass, ?c_World, ?n_Satellite_name, ?n_Satellite_store, ?n_Satellite_battery, ?n_Satellite_start_level, ?n_Satellite_reserve, ?n_Satellite_charge, ?n_Satellite_settle, ?n_Satellite_light, ?n_Station_name, ?n_Station_antennas, ?n_Station_turn, ?n_Recording_name, ?n_Recording_satellite, ?n_Recording_earliest, ?n_Recording_latest, ?n_Recording_length, ?n_Recording_size, ?n_Recording_energy, ?n_Recording_worth, ?n_Recording_rank, ?n_Recording_deadline, ?n_Pass_name, ?n_Pass_satellite, ?n_Pass_station, ?n_Pass_span, ?n_Pass_room, ?n_Pass_energy, ?n_Pass_fee, ?n_World_text, ?n_World_horizon, ?n_World_satellites, ?n_World_stations, ?n_World_recordings, ?n_World_passes, ?g_SATELLITES, ?g_STATIONS, ?g_RECORDINGS, ?g_PASSES, ?g_MOST_UNITS, ?g_MOST_CHARGE, ?g_MOST_DELAY, ?g_MOST_ANTENNAS, ?g_MOST_WORTH, ?g_MOST_RANK, ?g_MOST_FEE, ?g_SORTS, ?t_SORTS, ?k_SORTS, ?g_READERS, ?t_READERS, ?r_satellite, ?r_station, ?r_recording, ?r_pass, ?rdW, ?v_MOST_HORIZON, ?v_MOST_SATELLITES, ?v_MOST_STATIONS, ?v_MOST_RECORDINGS, ?v_MOST_PASSES, ?v_MOST_SHIFT⟩ ⟨?p_names_of, ?p_read_light, ?p_read_satellite, ?p_read_station, ?p_read_recording, ?p_read_pass, ?p_most_things, ?p_read_sort, ?p_read_things, ?p_lines_of, ?p_is_name, ?p_is_number, ?p_Line___init__, ?p_Line_has_more, ?p_Line_due, ?p_Line_step, ?p_Line_read_choice, ?p_Line_read_number, ?p_Line_read_field, ?p_Line_due_name, ?p_Line_read_new_name, ?p_Line_read_known_name, ?p_Line_finish, ?p_Satellite___init__, ?p_Station___init__, ?p_Recording___init__, ?p_Pass___init__, ?p_World___init__, ?p_World_parse⟩ ?a__law_cell ?a__law_draws ?a__law_stream ?a__law_next ?a__law_word ?a__law_satellite ?a__law_recording ?a__law_pass ?a__law_world ?a__law_lines ?a__law_text ?a__law_is_integer ?a__law_same ?a_is_option ?a_has_antenna ?a_is_filled ?a_made_recordings ?a_taken_passes ?a_busy_things ?a_energy_of ?a_spending ?a_charges ?a_battery_levels ?a__law_options ?a__law_case ?a__law_made ?a__law_has_antenna ?a__law_taken ?a_store_used ?a_events_of ?a_is_tuple_of ?a_is_made_entry ?a_is_taken_entry ?a_check_case ?a_Flight___init__ ?a_Flight___iter__ ?a_Flight___len__ ?a_law ?TO ?TF ?TEv ?TE ?BI
    (case c_Line => (refine' DP.cls_mk KX G ?g_u17 ?pg_u17 ?hd_u17 ?po_u17 ?sa_u17 ?mk_u17 ?kp_u17; (case g_u17 => k_is); (case pg_u17 => k_is); (case hd_u17 => k_is); (case po_u17 => k_is); (case sa_u17 => k_is); (case mk_u17 => k_is); (case kp_u17 => k_is)))
    (case c_Satellite => (refine' DP.cls_mk KX G ?g_u18 ?pg_u18 ?hd_u18 ?po_u18 ?sa_u18 ?mk_u18 ?kp_u18; (case g_u18 => k_is); (case pg_u18 => k_is); (case hd_u18 => k_is); (case po_u18 => k_is); (case sa_u18 => k_is); (case mk_u18 => k_is); (case kp_u18 => k_is)))
    (case c_Station => (refine' DP.cls_mk KX G ?g_u19 ?pg_u19 ?hd_u19 ?po_u19 ?sa_u19 ?mk_u19 ?kp_u19; (case g_u19 => k_is); (case pg_u19 => k_is); (case hd_u19 => k_is); (case po_u19 => k_is); (case sa_u19 => k_is); (case mk_u19 => k_is); (case kp_u19 => k_is)))
    (case c_Recording => (refine' DP.cls_mk KX G ?g_u20 ?pg_u20 ?hd_u20 ?po_u20 ?sa_u20 ?mk_u20 ?kp_u20; (case g_u20 => k_is); (case pg_u20 => k_is); (case hd_u20 => k_is); (case po_u20 => k_is); (case sa_u20 => k_is); (case mk_u20 => k_is); (case kp_u20 => k_is)))
    (case c_Pass => (refine' DP.cls_mk KX G ?g_u21 ?pg_u21 ?hd_u21 ?po_u21 ?sa_u21 ?mk_u21 ?kp_u21; (case g_u21 => k_is); (case pg_u21 => k_is); (case hd_u21 => k_is); (case po_u21 => k_is); (case sa_u21 => k_is); (case mk_u21 => k_is); (case kp_u21 => k_is)))
    (case c_World => (refine' DP.cls_mk KX G ?g_u22 ?pg_u22 ?hd_u22 ?po_u22 ?sa_u22 ?mk_u22 ?kp_u22; (case g_u22 => k_is); (case pg_u22 => k_is); (case hd_u22 => k_is); (case po_u22 => k_is); (case sa_u22 => k_is); (case mk_u22 => k_is); (case kp_u22 => k_is)))
    (case TO => (refine' ⟨DP.str_mk KX G ?tp1⟩; (case tp1 => k_is)))
    (case TF => (refine' ⟨DP.cls_mk KX G ?fg ?fpg ?fhd ?fpo ?fsa ?fmk ?fkp, ?fn1, ?fn2, ?fn3⟩; (case fg => k_is); (case fpg => k_is); (case fhd => k_is); (case fpo => k_is); (case fsa => k_is); (case fmk => k_is); (case fkp => k_is); (case fn1 => (show PySem.W.findIn _ _ _ = some none; k_is)); (case fn2 => (show PySem.W.findIn _ _ _ = some none; k_is)); (case fn3 => (show PySem.W.findIn _ _ _ = some none; k_is))))
    (case TEv => (refine' ⟨DP.int_mk KX G ?ev1, DP.int_mk KX G ?ev2, DP.int_mk KX G ?ev3, DP.int_mk KX G ?ev4, PySem.W.mg_of KX G ?ev5, DP.tup4s_mk ?ev6, PySem.W.mg_none_of KX G ?ev7⟩; (case ev1 => k_is); (case ev2 => k_is); (case ev3 => k_is); (case ev4 => k_is); (case ev5 => k_is); (case ev6 => k_is); (case ev7 => k_is)))
    (case TE => (refine' ⟨PySem.W.mg_of KX G ?eb1, ?eb2, ?eb3, ?eb4, ?eb5, ?eb6, ?eb7⟩; (case eb1 => k_is); (case eb2 => k_exc); (case eb3 => k_is); (case eb4 => k_is); (case eb5 => k_is); (case eb6 => k_is); (case eb7 => first | rfl | k_is)))
    (case BI => (refine' PySem.W.mg_none_of KX G ?biq; (case biq => k_is)))
    (case r_satellite => (refine' PySem.W.mg_of KX G ?q_u38; (case q_u38 => k_is)))
    (case r_station => (refine' PySem.W.mg_of KX G ?q_u39; (case q_u39 => k_is)))
    (case r_recording => (refine' PySem.W.mg_of KX G ?q_u40; (case q_u40 => k_is)))
    (case r_pass => (refine' PySem.W.mg_of KX G ?q_u41; (case q_u41 => k_is)))
    (case g_SORTS => (refine' PySem.W.mg_of KX G ?q_u42; (case q_u42 => k_is)))
    (case t_SORTS => (refine' DP.tup4s_mk ?q_u43; (case q_u43 => k_is)))
    (case k_SORTS => (refine' DP.tupk_mk ?q_u44; (case q_u44 => k_is)))
    (case g_READERS => (refine' PySem.W.mg_of KX G ?q_u45; (case q_u45 => k_is)))
    (case t_READERS => (refine' DP.tup4r_mk ?q_u46; (case q_u46 => k_is)))
    (case n_Line_number => (show PySem.W.findIn _ _ _ = some none; k_is))
    (case n_Line_words => (show PySem.W.findIn _ _ _ = some none; k_is))
    (case n_Line_read => (show PySem.W.findIn _ _ _ = some none; k_is))
    (case n_Line_column => (show PySem.W.findIn _ _ _ = some none; k_is))
    (case n_Satellite_name => (show PySem.W.findIn _ _ _ = some none; k_is))
    (case n_Satellite_store => (show PySem.W.findIn _ _ _ = some none; k_is))
    (case n_Satellite_battery => (show PySem.W.findIn _ _ _ = some none; k_is))
    (case n_Satellite_start_level => (show PySem.W.findIn _ _ _ = some none; k_is))
    (case n_Satellite_reserve => (show PySem.W.findIn _ _ _ = some none; k_is))
    (case n_Satellite_charge => (show PySem.W.findIn _ _ _ = some none; k_is))
    (case n_Satellite_settle => (show PySem.W.findIn _ _ _ = some none; k_is))
    (case n_Satellite_light => (show PySem.W.findIn _ _ _ = some none; k_is))
    (case n_Station_name => (show PySem.W.findIn _ _ _ = some none; k_is))
    (case n_Station_antennas => (show PySem.W.findIn _ _ _ = some none; k_is))
    (case n_Station_turn => (show PySem.W.findIn _ _ _ = some none; k_is))
    (case n_Recording_name => (show PySem.W.findIn _ _ _ = some none; k_is))
    (case n_Recording_satellite => (show PySem.W.findIn _ _ _ = some none; k_is))
    (case n_Recording_earliest => (show PySem.W.findIn _ _ _ = some none; k_is))
    (case n_Recording_latest => (show PySem.W.findIn _ _ _ = some none; k_is))
    (case n_Recording_length => (show PySem.W.findIn _ _ _ = some none; k_is))
    (case n_Recording_size => (show PySem.W.findIn _ _ _ = some none; k_is))
    (case n_Recording_energy => (show PySem.W.findIn _ _ _ = some none; k_is))
    (case n_Recording_worth => (show PySem.W.findIn _ _ _ = some none; k_is))
    (case n_Recording_rank => (show PySem.W.findIn _ _ _ = some none; k_is))
    (case n_Recording_deadline => (show PySem.W.findIn _ _ _ = some none; k_is))
    (case n_Pass_name => (show PySem.W.findIn _ _ _ = some none; k_is))
    (case n_Pass_satellite => (show PySem.W.findIn _ _ _ = some none; k_is))
    (case n_Pass_station => (show PySem.W.findIn _ _ _ = some none; k_is))
    (case n_Pass_span => (show PySem.W.findIn _ _ _ = some none; k_is))
    (case n_Pass_room => (show PySem.W.findIn _ _ _ = some none; k_is))
    (case n_Pass_energy => (show PySem.W.findIn _ _ _ = some none; k_is))
    (case n_Pass_fee => (show PySem.W.findIn _ _ _ = some none; k_is))
    (case n_World_text => (show PySem.W.findIn _ _ _ = some none; k_is))
    (case n_World_horizon => (show PySem.W.findIn _ _ _ = some none; k_is))
    (case n_World_satellites => (show PySem.W.findIn _ _ _ = some none; k_is))
    (case n_World_stations => (show PySem.W.findIn _ _ _ = some none; k_is))
    (case n_World_recordings => (show PySem.W.findIn _ _ _ = some none; k_is))
    (case n_World_passes => (show PySem.W.findIn _ _ _ = some none; k_is))
    (case z_len => (refine' PySem.W.mg_none_of KX G ?q_u1; (case q_u1 => k_is)))
    (case z_range => (refine' PySem.W.mg_none_of KX G ?q_u2; (case q_u2 => k_is)))
    (case z_int => (refine' PySem.W.mg_none_of KX G ?q_u3; (case q_u3 => k_is)))
    (case z_abs => (refine' PySem.W.mg_none_of KX G ?q_u4; (case q_u4 => k_is)))
    (case z_isinstance => (refine' PySem.W.mg_none_of KX G ?q_u5; (case q_u5 => k_is)))
    (case z_bool => (refine' PySem.W.mg_none_of KX G ?q_u6; (case q_u6 => k_is)))
    (case z_str => (refine' PySem.W.mg_none_of KX G ?q_u7; (case q_u7 => k_is)))
    (case z_tuple => (refine' PySem.W.mg_none_of KX G ?q_u8; (case q_u8 => k_is)))
    (case z_list => (refine' PySem.W.mg_none_of KX G ?q_u9; (case q_u9 => k_is)))
    (case z_min => (refine' PySem.W.mg_none_of KX G ?q_u12; (case q_u12 => k_is)))
    (case z_all => (refine' PySem.W.mg_none_of KX G ?q_u13; (case q_u13 => k_is)))
    (case z_enumerate => (refine' PySem.W.mg_none_of KX G ?q_u14; (case q_u14 => k_is)))
    (case g_LETTERS => (refine' DP.str_mk KX G ?q_u23; (case q_u23 => k_is)))
    (case g_DIGITS => (refine' DP.str_mk KX G ?q_u24; (case q_u24 => k_is)))
    (case g_MOST_NAME => (refine' DP.int_mk KX G ?q_u25; (case q_u25 => k_is)))
    (case g_MOST_DIGITS => (refine' DP.int_mk KX G ?q_u26; (case q_u26 => k_is)))
    (case g_SATELLITES => (refine' DP.int_mk KX G ?q_u27; (case q_u27 => k_is)))
    (case g_STATIONS => (refine' DP.int_mk KX G ?q_u28; (case q_u28 => k_is)))
    (case g_RECORDINGS => (refine' DP.int_mk KX G ?q_u29; (case q_u29 => k_is)))
    (case g_PASSES => (refine' DP.int_mk KX G ?q_u30; (case q_u30 => k_is)))
    (case g_MOST_UNITS => (refine' DP.int_mk KX G ?q_u31; (case q_u31 => k_is)))
    (case g_MOST_CHARGE => (refine' DP.int_mk KX G ?q_u32; (case q_u32 => k_is)))
    (case g_MOST_DELAY => (refine' DP.int_mk KX G ?q_u33; (case q_u33 => k_is)))
    (case g_MOST_ANTENNAS => (refine' DP.int_mk KX G ?q_u34; (case q_u34 => k_is)))
    (case g_MOST_WORTH => (refine' DP.int_mk KX G ?q_u35; (case q_u35 => k_is)))
    (case g_MOST_RANK => (refine' DP.int_mk KX G ?q_u36; (case q_u36 => k_is)))
    (case g_MOST_FEE => (refine' DP.int_mk KX G ?q_u37; (case q_u37 => k_is)))
    (case rdW => (refine' ⟨?rd_u47, ?ga_u47⟩; (case rd_u47 => k_is); (case ga_u47 => k_is)))
    (case v_MOST_HORIZON => (refine' DP.cval_mk ?q_u48; (case q_u48 => k_is)))
    (case v_MOST_SATELLITES => (refine' DP.cval_mk ?q_u49; (case q_u49 => k_is)))
    (case v_MOST_STATIONS => (refine' DP.cval_mk ?q_u50; (case q_u50 => k_is)))
    (case v_MOST_RECORDINGS => (refine' DP.cval_mk ?q_u51; (case q_u51 => k_is)))
    (case v_MOST_PASSES => (refine' DP.cval_mk ?q_u52; (case q_u52 => k_is)))
    (case v_MOST_SHIFT => (refine' DP.cval_mk ?q_u53; (case q_u53 => k_is)))
    (case p_names_of => (refine' DP.at_mk KX G ?a_u54 ?l_u54 ?c_u54 ?k_u54 DP.hb_names_of; (case a_u54 => k_is); (case l_u54 => k_is); (case c_u54 => k_is); (case k_u54 => k_is)))
    (case p_read_light => (refine' DP.at_mk KX G ?a_u55 ?l_u55 ?c_u55 ?k_u55 DP.hb_read_light; (case a_u55 => k_is); (case l_u55 => k_is); (case c_u55 => k_is); (case k_u55 => k_is)))
    (case p_read_satellite => (refine' DP.at_mk KX G ?a_u56 ?l_u56 ?c_u56 ?k_u56 DP.hb_read_satellite; (case a_u56 => k_is); (case l_u56 => k_is); (case c_u56 => k_is); (case k_u56 => k_is)))
    (case p_read_station => (refine' DP.at_mk KX G ?a_u57 ?l_u57 ?c_u57 ?k_u57 DP.hb_read_station; (case a_u57 => k_is); (case l_u57 => k_is); (case c_u57 => k_is); (case k_u57 => k_is)))
    (case p_read_recording => (refine' DP.at_mk KX G ?a_u58 ?l_u58 ?c_u58 ?k_u58 DP.hb_read_recording; (case a_u58 => k_is); (case l_u58 => k_is); (case c_u58 => k_is); (case k_u58 => k_is)))
    (case p_read_pass => (refine' DP.at_mk KX G ?a_u59 ?l_u59 ?c_u59 ?k_u59 DP.hb_read_pass; (case a_u59 => k_is); (case l_u59 => k_is); (case c_u59 => k_is); (case k_u59 => k_is)))
    (case p_most_things => (refine' DP.at_mk KX G ?a_u60 ?l_u60 ?c_u60 ?k_u60 DP.hb_most_things; (case a_u60 => k_is); (case l_u60 => k_is); (case c_u60 => k_is); (case k_u60 => k_is)))
    (case p_read_sort => (refine' DP.at_mk KX G ?a_u61 ?l_u61 ?c_u61 ?k_u61 DP.hb_read_sort; (case a_u61 => k_is); (case l_u61 => k_is); (case c_u61 => k_is); (case k_u61 => k_is)))
    (case p_read_things => (refine' DP.at_mk KX G ?a_u62 ?l_u62 ?c_u62 ?k_u62 DP.hb_read_things; (case a_u62 => k_is); (case l_u62 => k_is); (case c_u62 => k_is); (case k_u62 => k_is)))
    (case p_lines_of => (refine' DP.at_mk KX G ?a_u63 ?l_u63 ?c_u63 ?k_u63 DP.hb_lines_of; (case a_u63 => k_is); (case l_u63 => k_is); (case c_u63 => k_is); (case k_u63 => k_is)))
    (case p_is_name => (refine' DP.at_mk KX G ?a_u64 ?l_u64 ?c_u64 ?k_u64 DP.hb_is_name; (case a_u64 => k_is); (case l_u64 => k_is); (case c_u64 => k_is); (case k_u64 => k_is)))
    (case p_is_number => (refine' DP.at_mk KX G ?a_u65 ?l_u65 ?c_u65 ?k_u65 DP.hb_is_number; (case a_u65 => k_is); (case l_u65 => k_is); (case c_u65 => k_is); (case k_u65 => k_is)))
    (case p_Line___init__ => (refine' DP.met_mk ?a_u66 ?i_u66 ?l_u66 ?c_u66 ?k_u66 DP.hb_Line___init__; (case a_u66 => k_is); (case i_u66 => k_is); (case l_u66 => k_is); (case c_u66 => k_is); (case k_u66 => k_is)))
    (case p_Line_has_more => (refine' DP.met_mk ?a_u67 ?i_u67 ?l_u67 ?c_u67 ?k_u67 DP.hb_Line_has_more; (case a_u67 => k_is); (case i_u67 => k_is); (case l_u67 => k_is); (case c_u67 => k_is); (case k_u67 => k_is)))
    (case p_Line_due => (refine' DP.met_mk ?a_u68 ?i_u68 ?l_u68 ?c_u68 ?k_u68 DP.hb_Line_due; (case a_u68 => k_is); (case i_u68 => k_is); (case l_u68 => k_is); (case c_u68 => k_is); (case k_u68 => k_is)))
    (case p_Line_step => (refine' DP.met_mk ?a_u69 ?i_u69 ?l_u69 ?c_u69 ?k_u69 DP.hb_Line_step; (case a_u69 => k_is); (case i_u69 => k_is); (case l_u69 => k_is); (case c_u69 => k_is); (case k_u69 => k_is)))
    (case p_Line_read_choice => (refine' DP.met_mk ?a_u70 ?i_u70 ?l_u70 ?c_u70 ?k_u70 DP.hb_Line_read_choice; (case a_u70 => k_is); (case i_u70 => k_is); (case l_u70 => k_is); (case c_u70 => k_is); (case k_u70 => k_is)))
    (case p_Line_read_number => (refine' DP.met_mk ?a_u71 ?i_u71 ?l_u71 ?c_u71 ?k_u71 DP.hb_Line_read_number; (case a_u71 => k_is); (case i_u71 => k_is); (case l_u71 => k_is); (case c_u71 => k_is); (case k_u71 => k_is)))
    (case p_Line_read_field => (refine' DP.met_mk ?a_u72 ?i_u72 ?l_u72 ?c_u72 ?k_u72 DP.hb_Line_read_field; (case a_u72 => k_is); (case i_u72 => k_is); (case l_u72 => k_is); (case c_u72 => k_is); (case k_u72 => k_is)))
    (case p_Line_due_name => (refine' DP.met_mk ?a_u73 ?i_u73 ?l_u73 ?c_u73 ?k_u73 DP.hb_Line_due_name; (case a_u73 => k_is); (case i_u73 => k_is); (case l_u73 => k_is); (case c_u73 => k_is); (case k_u73 => k_is)))
    (case p_Line_read_new_name => (refine' DP.met_mk ?a_u74 ?i_u74 ?l_u74 ?c_u74 ?k_u74 DP.hb_Line_read_new_name; (case a_u74 => k_is); (case i_u74 => k_is); (case l_u74 => k_is); (case c_u74 => k_is); (case k_u74 => k_is)))
    (case p_Line_read_known_name => (refine' DP.metD_mk ?a_u75 ?i_u75 ?l_u75 ?lT_u75 ?c_u75 ?k_u75 2 rfl DP.hb_Line_read_known_name; (case a_u75 => k_is); (case i_u75 => k_is); (case l_u75 => k_is); (case lT_u75 => k_is); (case c_u75 => k_is); (case k_u75 => k_is)))
    (case p_Line_finish => (refine' DP.met_mk ?a_u76 ?i_u76 ?l_u76 ?c_u76 ?k_u76 DP.hb_Line_finish; (case a_u76 => k_is); (case i_u76 => k_is); (case l_u76 => k_is); (case c_u76 => k_is); (case k_u76 => k_is)))
    (case p_Satellite___init__ => (refine' DP.met_mk ?a_u77 ?i_u77 ?l_u77 ?c_u77 ?k_u77 DP.hb_Satellite___init__; (case a_u77 => k_is); (case i_u77 => k_is); (case l_u77 => k_is); (case c_u77 => k_is); (case k_u77 => k_is)))
    (case p_Station___init__ => (refine' DP.met_mk ?a_u78 ?i_u78 ?l_u78 ?c_u78 ?k_u78 DP.hb_Station___init__; (case a_u78 => k_is); (case i_u78 => k_is); (case l_u78 => k_is); (case c_u78 => k_is); (case k_u78 => k_is)))
    (case p_Recording___init__ => (refine' DP.met_mk ?a_u79 ?i_u79 ?l_u79 ?c_u79 ?k_u79 DP.hb_Recording___init__; (case a_u79 => k_is); (case i_u79 => k_is); (case l_u79 => k_is); (case c_u79 => k_is); (case k_u79 => k_is)))
    (case p_Pass___init__ => (refine' DP.met_mk ?a_u80 ?i_u80 ?l_u80 ?c_u80 ?k_u80 DP.hb_Pass___init__; (case a_u80 => k_is); (case i_u80 => k_is); (case l_u80 => k_is); (case c_u80 => k_is); (case k_u80 => k_is)))
    (case p_World___init__ => (refine' DP.met_mk ?a_u81 ?i_u81 ?l_u81 ?c_u81 ?k_u81 DP.hb_World___init__; (case a_u81 => k_is); (case i_u81 => k_is); (case l_u81 => k_is); (case c_u81 => k_is); (case k_u81 => k_is)))
    (case p_World_parse => (refine' DP.smet_mk ?a_u82 ?r_u82 ?l_u82 ?c_u82 ?k_u82 DP.hb_World_parse; (case a_u82 => k_is); (case r_u82 => k_is); (case l_u82 => k_is); (case c_u82 => k_is); (case k_u82 => k_is)))
    (case a__law_cell => (refine' DP.at_mk KX G ?a_u83 ?l_u83 ?c_u83 ?k_u83 DP.hb__law_cell; (case a_u83 => k_is); (case l_u83 => k_is); (case c_u83 => k_is); (case k_u83 => k_is)))
    (case a__law_draws => (refine' DP.at_mk KX G ?a_u84 ?l_u84 ?c_u84 ?k_u84 DP.hb__law_draws; (case a_u84 => k_is); (case l_u84 => k_is); (case c_u84 => k_is); (case k_u84 => k_is)))
    (case a__law_stream => (refine' DP.at_mk KX G ?a_u85 ?l_u85 ?c_u85 ?k_u85 DP.hb__law_stream; (case a_u85 => k_is); (case l_u85 => k_is); (case c_u85 => k_is); (case k_u85 => k_is)))
    (case a__law_next => (refine' DP.at_mk KX G ?a_u86 ?l_u86 ?c_u86 ?k_u86 DP.hb__law_next; (case a_u86 => k_is); (case l_u86 => k_is); (case c_u86 => k_is); (case k_u86 => k_is)))
    (case a__law_word => (refine' DP.at_mk KX G ?a_u87 ?l_u87 ?c_u87 ?k_u87 DP.hb__law_word; (case a_u87 => k_is); (case l_u87 => k_is); (case c_u87 => k_is); (case k_u87 => k_is)))
    (case a__law_satellite => (refine' DP.at_mk KX G ?a_u88 ?l_u88 ?c_u88 ?k_u88 DP.hb__law_satellite; (case a_u88 => k_is); (case l_u88 => k_is); (case c_u88 => k_is); (case k_u88 => k_is)))
    (case a__law_recording => (refine' DP.at_mk KX G ?a_u89 ?l_u89 ?c_u89 ?k_u89 DP.hb__law_recording; (case a_u89 => k_is); (case l_u89 => k_is); (case c_u89 => k_is); (case k_u89 => k_is)))
    (case a__law_pass => (refine' DP.at_mk KX G ?a_u90 ?l_u90 ?c_u90 ?k_u90 DP.hb__law_pass; (case a_u90 => k_is); (case l_u90 => k_is); (case c_u90 => k_is); (case k_u90 => k_is)))
    (case a__law_world => (refine' DP.at_mk KX G ?a_u91 ?l_u91 ?c_u91 ?k_u91 DP.hb__law_world; (case a_u91 => k_is); (case l_u91 => k_is); (case c_u91 => k_is); (case k_u91 => k_is)))
    (case a__law_lines => (refine' DP.at_mk KX G ?a_u92 ?l_u92 ?c_u92 ?k_u92 DP.hb__law_lines; (case a_u92 => k_is); (case l_u92 => k_is); (case c_u92 => k_is); (case k_u92 => k_is)))
    (case a__law_text => (refine' DP.at_mk KX G ?a_u93 ?l_u93 ?c_u93 ?k_u93 DP.hb__law_text; (case a_u93 => k_is); (case l_u93 => k_is); (case c_u93 => k_is); (case k_u93 => k_is)))
    (case a__law_is_integer => (refine' DP.at_mk KX G ?a_u94 ?l_u94 ?c_u94 ?k_u94 DP.hb__law_is_integer; (case a_u94 => k_is); (case l_u94 => k_is); (case c_u94 => k_is); (case k_u94 => k_is)))
    (case a__law_same => (refine' DP.at_mk KX G ?a_u95 ?l_u95 ?c_u95 ?k_u95 DP.hb__law_same; (case a_u95 => k_is); (case l_u95 => k_is); (case c_u95 => k_is); (case k_u95 => k_is)))
    (case a_is_option => (refine' DP.at_mk KX G ?a_u96 ?l_u96 ?c_u96 ?k_u96 DP.hb_is_option; (case a_u96 => k_is); (case l_u96 => k_is); (case c_u96 => k_is); (case k_u96 => k_is)))
    (case a_has_antenna => (refine' DP.at_mk KX G ?a_u97 ?l_u97 ?c_u97 ?k_u97 DP.hb_has_antenna; (case a_u97 => k_is); (case l_u97 => k_is); (case c_u97 => k_is); (case k_u97 => k_is)))
    (case a_is_filled => (refine' DP.at_mk KX G ?a_u98 ?l_u98 ?c_u98 ?k_u98 DP.hb_is_filled; (case a_u98 => k_is); (case l_u98 => k_is); (case c_u98 => k_is); (case k_u98 => k_is)))
    (case a_made_recordings => (refine' DP.at_mk KX G ?a_u99 ?l_u99 ?c_u99 ?k_u99 DP.hb_made_recordings; (case a_u99 => k_is); (case l_u99 => k_is); (case c_u99 => k_is); (case k_u99 => k_is)))
    (case a_taken_passes => (refine' DP.at_mk KX G ?a_u100 ?l_u100 ?c_u100 ?k_u100 DP.hb_taken_passes; (case a_u100 => k_is); (case l_u100 => k_is); (case c_u100 => k_is); (case k_u100 => k_is)))
    (case a_busy_things => (refine' DP.at_mk KX G ?a_u101 ?l_u101 ?c_u101 ?k_u101 DP.hb_busy_things; (case a_u101 => k_is); (case l_u101 => k_is); (case c_u101 => k_is); (case k_u101 => k_is)))
    (case a_energy_of => (refine' DP.at_mk KX G ?a_u102 ?l_u102 ?c_u102 ?k_u102 DP.hb_energy_of; (case a_u102 => k_is); (case l_u102 => k_is); (case c_u102 => k_is); (case k_u102 => k_is)))
    (case a_spending => (refine' DP.at_mk KX G ?a_u103 ?l_u103 ?c_u103 ?k_u103 DP.hb_spending; (case a_u103 => k_is); (case l_u103 => k_is); (case c_u103 => k_is); (case k_u103 => k_is)))
    (case a_charges => (refine' DP.at_mk KX G ?a_u104 ?l_u104 ?c_u104 ?k_u104 DP.hb_charges; (case a_u104 => k_is); (case l_u104 => k_is); (case c_u104 => k_is); (case k_u104 => k_is)))
    (case a_battery_levels => (refine' DP.at_mk KX G ?a_u105 ?l_u105 ?c_u105 ?k_u105 DP.hb_battery_levels; (case a_u105 => k_is); (case l_u105 => k_is); (case c_u105 => k_is); (case k_u105 => k_is)))
    (case a__law_options => (refine' DP.at_mk KX G ?a_u106 ?l_u106 ?c_u106 ?k_u106 DP.hb__law_options; (case a_u106 => k_is); (case l_u106 => k_is); (case c_u106 => k_is); (case k_u106 => k_is)))
    (case a__law_case => (refine' DP.at_mk KX G ?a_u107 ?l_u107 ?c_u107 ?k_u107 DP.hb__law_case; (case a_u107 => k_is); (case l_u107 => k_is); (case c_u107 => k_is); (case k_u107 => k_is)))
    (case a__law_made => (refine' DP.at_mk KX G ?a_u108 ?l_u108 ?c_u108 ?k_u108 DP.hb__law_made; (case a_u108 => k_is); (case l_u108 => k_is); (case c_u108 => k_is); (case k_u108 => k_is)))
    (case a__law_has_antenna => (refine' DP.at_mk KX G ?a_u109 ?l_u109 ?c_u109 ?k_u109 DP.hb__law_has_antenna; (case a_u109 => k_is); (case l_u109 => k_is); (case c_u109 => k_is); (case k_u109 => k_is)))
    (case a__law_taken => (refine' DP.at_mk KX G ?a_u110 ?l_u110 ?c_u110 ?k_u110 DP.hb__law_taken; (case a_u110 => k_is); (case l_u110 => k_is); (case c_u110 => k_is); (case k_u110 => k_is)))
    (case a_store_used => (refine' DP.at_mk KX G ?a_u111 ?l_u111 ?c_u111 ?k_u111 DP.hb_store_used; (case a_u111 => k_is); (case l_u111 => k_is); (case c_u111 => k_is); (case k_u111 => k_is)))
    (case a_events_of => (refine' DP.at_mk KX G ?a_u112 ?l_u112 ?c_u112 ?k_u112 DP.hb_events_of; (case a_u112 => k_is); (case l_u112 => k_is); (case c_u112 => k_is); (case k_u112 => k_is)))
    (case a_is_tuple_of => (refine' DP.at_mk KX G ?a_u113 ?l_u113 ?c_u113 ?k_u113 DP.hb_is_tuple_of; (case a_u113 => k_is); (case l_u113 => k_is); (case c_u113 => k_is); (case k_u113 => k_is)))
    (case a_is_made_entry => (refine' DP.at_mk KX G ?a_u114 ?l_u114 ?c_u114 ?k_u114 DP.hb_is_made_entry; (case a_u114 => k_is); (case l_u114 => k_is); (case c_u114 => k_is); (case k_u114 => k_is)))
    (case a_is_taken_entry => (refine' DP.at_mk KX G ?a_u115 ?l_u115 ?c_u115 ?k_u115 DP.hb_is_taken_entry; (case a_u115 => k_is); (case l_u115 => k_is); (case c_u115 => k_is); (case k_u115 => k_is)))
    (case a_check_case => (refine' DP.at_mk KX G ?a_u116 ?l_u116 ?c_u116 ?k_u116 DP.hb_check_case; (case a_u116 => k_is); (case l_u116 => k_is); (case c_u116 => k_is); (case k_u116 => k_is)))
    (case a_Flight___init__ => (refine' DP.met_mk ?a_u117 ?i_u117 ?l_u117 ?c_u117 ?k_u117 DP.hb_Flight___init__; (case a_u117 => k_is); (case i_u117 => k_is); (case l_u117 => k_is); (case c_u117 => k_is); (case k_u117 => k_is)))
    (case a_Flight___iter__ => (refine' DP.met_mk ?a_u118 ?i_u118 ?l_u118 ?c_u118 ?k_u118 DP.hb_Flight___iter__; (case a_u118 => k_is); (case i_u118 => k_is); (case l_u118 => k_is); (case c_u118 => k_is); (case k_u118 => k_is)))
    (case a_Flight___len__ => (refine' DP.met_mk ?a_u119 ?i_u119 ?l_u119 ?c_u119 ?k_u119 DP.hb_Flight___len__; (case a_u119 => k_is); (case i_u119 => k_is); (case l_u119 => k_is); (case c_u119 => k_is); (case k_u119 => k_is)))
    (case a_law => (refine' DP.at_mk KX G ?a_u120 ?l_u120 ?c_u120 ?k_u120 DP.hb_law; (case a_u120 => k_is); (case l_u120 => k_is); (case c_u120 => k_is); (case k_u120 => k_is)))
