import PyProof.Rows.All
import Wide.All
import OpenK.AllK
import Wide.FinOn
import PyProof.ListMulRoad
import HandS.ForMost
import HandS.IsInst
import HandS.TupAny
import HandS.TupMul
import HandS.Star
import HandS.Wide
import HandS.Style
import HandS.TryOnly
import HandS.NoneIn
import HandS.Gcd
import KE.DatumOrd
import PySem.Challenge.RW_noroadback_k01_whole_roots_and_words_tha
set_option Elab.async false
set_option linter.all false
set_option maxRecDepth 100000
set_option maxHeartbeats 4000000
/-! Words in which an entry and its opposite strike each other out: what is left, and what goes along with it. -/
namespace Fr
/-- the entry e laid on a pile (its top first) -/
def push (e : Int) : List Int → List Int
  | [] => [e]
  | x :: t => if x = -e then t else e :: x :: t
def act (w s : List Int) : List Int := w.foldl (fun s e => push e s) s
def red (w : List Int) : List Int := (act w []).reverse
def Nf : List Int → Prop
  | [] => True
  | [_] => True
  | x :: y :: t => x ≠ -y ∧ Nf (y :: t)
def opp (w : List Int) : List Int := (w.map fun e => -e).reverse
def rep (w : List Int) : Nat → List Int
  | 0 => []
  | n + 1 => rep w n ++ w

theorem push_eq {e x : Int} {t : List Int} (h : x = -e) : push e (x :: t) = t := by
  show (if x = -e then t else e :: x :: t) = t
  rw [if_pos h]
theorem push_on {e x : Int} {t : List Int} (h : ¬ x = -e) : push e (x :: t) = e :: x :: t := by
  show (if x = -e then t else e :: x :: t) = e :: x :: t
  rw [if_neg h]
theorem Nf.tail {x : Int} {t : List Int} (h : Nf (x :: t)) : Nf t := by
  cases t with
  | nil => exact True.intro
  | cons y t => exact h.2
theorem push_nf {e : Int} {s : List Int} (h : Nf s) : Nf (push e s) := by
  cases s with
  | nil => exact True.intro
  | cons x t =>
    by_cases hx : x = -e
    · rw [push_eq hx]; exact h.tail
    · rw [push_on hx]; exact ⟨fun q => hx (by omega), h⟩
theorem push_back {e : Int} {s : List Int} (h : Nf s) : push (-e) (push e s) = s := by
  cases s with
  | nil => exact push_eq (t := []) (by omega)
  | cons x t =>
    by_cases hx : x = -e
    · have h1 : push e (x :: t) = t := push_eq hx
      rw [h1]
      cases t with
      | nil => show [-e] = [x]; rw [hx]
      | cons y t =>
        have hn : ¬ y = - -e := fun q => h.1 (by omega)
        show (if y = - -e then t else -e :: y :: t) = x :: y :: t
        rw [if_neg hn, hx]
    · have h1 : push e (x :: t) = e :: x :: t := push_on hx
      rw [h1]
      show (if e = - -e then x :: t else _) = x :: t
      rw [if_pos (by omega)]
theorem push_fwd {e : Int} {s : List Int} (h : Nf s) : push e (push (-e) s) = s := by
  have := push_back (e := -e) h
  rwa [Int.neg_neg] at this
theorem act_nil (s : List Int) : act [] s = s := rfl
theorem act_cons (e : Int) (w s : List Int) : act (e :: w) s = act w (push e s) := rfl
theorem act_app (a b s : List Int) : act (a ++ b) s = act b (act a s) := List.foldl_append
theorem act_nf : ∀ (w : List Int) {s : List Int}, Nf s → Nf (act w s)
  | [], _, h => h
  | e :: w, _, h => act_nf w (push_nf h)
theorem opp_nil : opp [] = [] := rfl
theorem opp_cons (e : Int) (w : List Int) : opp (e :: w) = opp w ++ [-e] := by unfold opp; rw [List.map_cons, List.reverse_cons]
theorem opp_app (a b : List Int) : opp (a ++ b) = opp b ++ opp a := by unfold opp; rw [List.map_append, List.reverse_append]
theorem opp_opp (w : List Int) : opp (opp w) = w := by
  induction w with
  | nil => rfl
  | cons e w ih => rw [opp_cons, opp_app, ih]; show [- -e] ++ w = e :: w; rw [Int.neg_neg]; rfl
theorem opp_len (w : List Int) : (opp w).length = w.length := by unfold opp; rw [List.length_reverse, List.length_map]
theorem act_opp : ∀ (w : List Int) {s : List Int}, Nf s → act (opp w) (act w s) = s
  | [], _, _ => rfl
  | e :: w, s, h => by
    rw [opp_cons, act_app]
    show push (-e) (act (opp w) (act w (push e s))) = s
    rw [act_opp w (push_nf h)]
    exact push_back h
theorem opp_act (w : List Int) {s : List Int} (h : Nf s) : act w (act (opp w) s) = s := by
  have := act_opp (opp w) h
  rwa [opp_opp] at this
theorem snoc_ind {P : List Int → Prop} (h0 : P []) (h1 : ∀ w e, P w → P (w ++ [e])) (w : List Int) : P w := by
  have h : ∀ v : List Int, P v.reverse := fun v => by
    induction v with
    | nil => exact h0
    | cons e v ih => rw [List.reverse_cons]; exact h1 _ _ ih
  have := h w.reverse
  rwa [List.reverse_reverse] at this
theorem red_snoc (w : List Int) (e : Int) : red (w ++ [e]) = (push e (act w [])).reverse := by unfold red; rw [act_app]; rfl
/-- what is left acts as the whole -/
theorem act_red (w : List Int) : ∀ {s : List Int}, Nf s → act (red w) s = act w s := by
  refine snoc_ind (P := fun w => ∀ {s : List Int}, Nf s → act (red w) s = act w s) (fun _ => rfl) (fun w e ih => ?_) w
  intro s h
  rw [red_snoc, act_app]
  show act (push e (act w [])).reverse s = push e (act w s)
  rw [← ih h]
  unfold red
  cases q : act w [] with
  | nil => rfl
  | cons x t =>
    by_cases hx : x = -e
    · have h1 : push e (x :: t) = t := push_eq hx
      rw [h1, List.reverse_cons, act_app, hx]
      show act t.reverse s = push e (push (-e) (act t.reverse s))
      rw [push_fwd (act_nf _ h)]
    · have h1 : push e (x :: t) = e :: x :: t := push_on hx
      rw [h1, List.reverse_cons, act_app]
      rfl
theorem Nf.of_act (w : List Int) : Nf (act w []) := act_nf w (s := []) True.intro
/-- a bare row with a bare end: the two ends as they meet -/
theorem nf_snoc2 : ∀ {w : List Int} {x y : Int}, Nf (w ++ [x]) → x ≠ -y → Nf (w ++ [x, y])
  | [], _, _, _, h => ⟨h, True.intro⟩
  | [a], _, _, h1, h => ⟨h1.1, h, True.intro⟩
  | a :: b :: w, _, _, h1, h => ⟨h1.1, nf_snoc2 (w := b :: w) h1.2 h⟩
theorem nf_rev {w : List Int} (h : Nf w) : Nf w.reverse := by
  induction w with
  | nil => exact True.intro
  | cons x w ih =>
    cases w with
    | nil => exact True.intro
    | cons y w =>
      rw [List.reverse_cons, List.reverse_cons, List.append_assoc]
      have h2 := ih h.2
      rw [List.reverse_cons] at h2
      exact nf_snoc2 h2 fun q => h.1 (by omega)
theorem red_nf (w : List Int) : Nf (red w) := nf_rev (Nf.of_act w)
theorem nf_front : ∀ {a b : List Int}, Nf (a ++ b) → Nf a
  | [], _, _ => True.intro
  | [_], _, _ => True.intro
  | _ :: y :: a, _, h => ⟨h.1, nf_front (a := y :: a) h.2⟩
theorem nf_back : ∀ {a b : List Int}, Nf (a ++ b) → Nf b
  | [], _, h => h
  | _ :: _, _, h => nf_back h.tail
theorem act_bare (w : List Int) : Nf w → act w [] = w.reverse := by
  refine snoc_ind (P := fun w => Nf w → act w [] = w.reverse) (fun _ => rfl) (fun w e ih h => ?_) w
  rw [act_app, ih (nf_front h), List.reverse_append]
  show push e w.reverse = [e].reverse ++ w.reverse
  cases q : w.reverse with
  | nil => rfl
  | cons x t =>
    have hw : w = t.reverse ++ [x] := by
      have := congrArg List.reverse q
      rwa [List.reverse_reverse, List.reverse_cons] at this
    rw [hw, List.append_assoc] at h
    have h2 : Nf [x, e] := nf_back h
    show (if x = -e then t else e :: x :: t) = e :: x :: t
    rw [if_neg h2.1]
theorem red_id {w : List Int} (h : Nf w) : red w = w := by unfold red; rw [act_bare w h, List.reverse_reverse]
theorem red_congr {a b : List Int} (h : act a [] = act b []) : red a = red b := by unfold red; rw [h]
theorem red_app_l (a b : List Int) : red (red a ++ b) = red (a ++ b) := red_congr (by rw [act_app, act_app, act_red a (s := []) True.intro])
theorem red_app_r (a b : List Int) : red (a ++ red b) = red (a ++ b) := red_congr (by rw [act_app, act_app, act_red b (Nf.of_act a)])
theorem red_red (a : List Int) : red (red a) = red a := red_id (red_nf a)
theorem red_opp_self (w : List Int) : red (w ++ opp w) = [] := by
  unfold red
  rw [act_app, act_opp w (s := []) True.intro]
  rfl
theorem red_opp (x : List Int) : red (opp x) = red (opp (red x)) := by
  refine red_congr ?_
  have n : Nf (act (opp (red x)) []) := act_nf _ (s := []) True.intro
  have h1 : act x (act (opp (red x)) []) = [] := by
    rw [← act_red x n]
    exact opp_act (red x) (s := []) True.intro
  have h2 := act_opp x n
  rw [h1] at h2
  exact h2
theorem nf_map_neg : ∀ {w : List Int}, Nf w → Nf (w.map fun e => -e)
  | [], _ => True.intro
  | [_], _ => True.intro
  | x :: y :: w, h => ⟨fun q => h.1 (by have q2 : -x = - -y := q; omega), nf_map_neg (w := y :: w) h.2⟩
theorem nf_opp {w : List Int} (h : Nf w) : Nf (opp w) := nf_rev (nf_map_neg h)
theorem opp_red (x : List Int) : opp (red x) = red (opp x) := by rw [red_opp, red_id (nf_opp (red_nf x))]
/-- a struck pair -/
theorem red_strike (a b : List Int) (x y : Int) (h : x = -y) : red (a ++ x :: y :: b) = red (a ++ b) := red_congr (by
  rw [act_app, act_app, act_cons, act_cons]
  have e : y = -x := by omega
  rw [e, push_back (Nf.of_act a)])

/-! powers -/
theorem rep_len (w : List Int) : ∀ n, (rep w n).length = n * w.length
  | 0 => by simp [rep]
  | n + 1 => by
    show (rep w n ++ w).length = _
    rw [List.length_append, rep_len w n, Nat.succ_mul]
theorem rep_nil : ∀ n, rep [] n = []
  | 0 => rfl
  | n + 1 => by show rep [] n ++ [] = []; rw [rep_nil n]; rfl
theorem rep_front (w : List Int) : ∀ n, rep w (n + 1) = w ++ rep w n
  | 0 => by show [] ++ w = w ++ []; simp
  | n + 1 => by
    show rep w (n + 1) ++ w = w ++ (rep w n ++ w)
    rw [rep_front w n, List.append_assoc]
theorem opp_rep (w : List Int) : ∀ n, opp (rep w n) = rep (opp w) n
  | 0 => rfl
  | n + 1 => by
    show opp (rep w n ++ w) = rep (opp w) (n + 1)
    rw [opp_app, opp_rep w n, rep_front]
theorem flat_rep (w : List Int) : ∀ n, (List.replicate n w).flatten = rep w n
  | 0 => rfl
  | n + 1 => by
    rw [List.replicate_succ, List.flatten_cons, flat_rep w n, rep_front]
/-- the power of a word for a number of any sign, not yet bare -/
def pw (w : List Int) (m : Int) : List Int := if m < 0 then rep (opp w) (-m).toNat else rep w m.toNat
theorem pw_succ (w : List Int) (m : Int) {s : List Int} (h : Nf s) : act (pw w (m + 1)) s = act w (act (pw w m) s) := by
  unfold pw
  by_cases h0 : m < 0
  · rw [if_pos h0]
    obtain ⟨k, hk⟩ : ∃ k : Nat, (-m).toNat = k + 1 := ⟨(-m).toNat - 1, by omega⟩
    rw [hk]
    show _ = act w (act (rep (opp w) k ++ opp w) s)
    rw [act_app, opp_act w (act_nf _ h)]
    by_cases h1 : m + 1 < 0
    · rw [if_pos h1]
      have : (-(m + 1)).toNat = k := by omega
      rw [this]
    · rw [if_neg h1]
      have e1 : (m + 1).toNat = 0 := by omega
      have e2 : k = 0 := by omega
      rw [e1, e2]
      rfl
  · rw [if_neg h0, if_neg (by omega : ¬ m + 1 < 0)]
    have : (m + 1).toNat = m.toNat + 1 := by omega
    rw [this]
    show act (rep w m.toNat ++ w) s = _
    rw [act_app]
theorem pw_add (w : List Int) (m : Int) : ∀ (n : Nat) {s : List Int}, Nf s → act (pw w (m + n)) s = act (rep w n) (act (pw w m) s)
  | 0, s, h => by
    have : m + ((0 : Nat) : Int) = m := by omega
    rw [this]
    rfl
  | n + 1, s, h => by
    have : m + ((n + 1 : Nat) : Int) = (m + n) + 1 := by omega
    rw [this, pw_succ w (m + n) h, pw_add w m n h]
    show _ = act (rep w n ++ w) _
    rw [act_app]
theorem red_pw_add (w : List Int) (m : Int) (n : Nat) : red (pw w (m + n)) = red (red (pw w m) ++ red (pw w (n : Int))) := by
  rw [red_app_l, red_app_r]
  refine red_congr ?_
  rw [pw_add w m n (s := []) True.intro, act_app]
  unfold pw
  rw [if_neg (by omega : ¬ (n : Int) < 0), Int.toNat_natCast]
theorem nf_join : ∀ {a b : List Int}, Nf a → Nf b → (∀ x y, a.getLast? = some x → b.head? = some y → x ≠ -y) → Nf (a ++ b)
  | [], _, _, hb, _ => hb
  | [x], [], _, _, _ => True.intro
  | [x], y :: b, _, hb, h => ⟨h x y rfl rfl, hb⟩
  | x :: z :: a, b, ha, hb, h => ⟨ha.1, nf_join (a := z :: a) ha.2 hb fun u v hu hv => h u v (by rw [List.getLast?_cons_cons]; exact hu) hv⟩
theorem last_rep {w : List Int} {x : Int} (h : w.getLast? = some x) (n : Nat) : (rep w (n + 1)).getLast? = some x := by
  show (rep w n ++ w).getLast? = some x
  rw [List.getLast?_append, h]
  rfl
theorem head_rep {w : List Int} {x : Int} (h : w.head? = some x) (n : Nat) : (rep w (n + 1)).head? = some x := by
  rw [rep_front, List.head?_append, h]
  rfl
theorem nf_rep {w : List Int} (h : Nf w) (hj : ∀ x y, w.getLast? = some x → w.head? = some y → x ≠ -y) : ∀ n, Nf (rep w n)
  | 0 => True.intro
  | n + 1 => by
    show Nf (rep w n ++ w)
    refine nf_join (nf_rep h hj n) h fun x y hx hy => ?_
    cases n with
    | zero => cases hx
    | succ n =>
      cases q : w.getLast? with
      | none =>
        have : w = [] := List.getLast?_eq_none_iff.mp q
        rw [this] at hy
        cases hy
      | some z =>
        rw [last_rep q n] at hx
        cases hx
        exact hj x y q hy
/-- a bare word in its two parts: its power as the program writes it -/
theorem red_pow {c m : List Int} (h : Nf (c ++ m ++ opp c)) (hm : m ≠ []) (hj : ∀ x y, m.getLast? = some x → m.head? = some y → x ≠ -y) (n : Nat) :
    red (rep (c ++ m ++ opp c) (n + 1)) = c ++ rep m (n + 1) ++ opp c := by
  have a1 : ∀ (n : Nat) {s : List Int}, Nf s → act (rep (c ++ m ++ opp c) n) s = act (c ++ rep m n ++ opp c) s := fun n => by
    induction n with
    | zero =>
      intro s hs
      show s = act (c ++ [] ++ opp c) s
      rw [List.append_nil, act_app, act_opp c hs]
    | succ n ih =>
      intro s hs
      show act (rep (c ++ m ++ opp c) n ++ (c ++ m ++ opp c)) s = act (c ++ (rep m n ++ m) ++ opp c) s
      rw [act_app, ih hs]
      simp only [act_app]
      rw [opp_act c (act_nf _ (act_nf _ hs))]
  have e : red (rep (c ++ m ++ opp c) (n + 1)) = red (c ++ rep m (n + 1) ++ opp c) := red_congr (a1 (n + 1) (s := []) True.intro)
  rw [e]
  refine red_id ?_
  have hcm : Nf (c ++ m) := nf_front h
  have hm1 : Nf m := nf_back hcm
  obtain ⟨z, hz⟩ : ∃ z, m.getLast? = some z := by
    cases q : m.getLast? with
    | none => exact absurd (List.getLast?_eq_none_iff.mp q) hm
    | some z => exact ⟨z, rfl⟩
  obtain ⟨u, hu⟩ : ∃ u, m.head? = some u := by
    cases m with
    | nil => exact absurd rfl hm
    | cons a b => exact ⟨a, rfl⟩
  have jn : ∀ {a b : List Int} {x y : Int}, Nf (a ++ b) → a.getLast? = some x → b.head? = some y → x ≠ -y := fun {a b x y} hab hx hy => by
    obtain ⟨a', ha⟩ : ∃ a', a = a' ++ [x] := by
      have hne : a ≠ [] := fun q => by rw [q] at hx; cases hx
      refine ⟨a.dropLast, ?_⟩
      rw [List.getLast?_eq_some_getLast hne] at hx
      have := List.dropLast_concat_getLast hne
      rw [Option.some.inj hx] at this
      exact this.symm
    obtain ⟨b', hb⟩ : ∃ b', b = y :: b' := by
      cases b with
      | nil => cases hy
      | cons p q => cases hy; exact ⟨q, rfl⟩
    rw [ha, hb, List.append_assoc] at hab
    have h2 : Nf ([x] ++ y :: b') := nf_back hab
    exact h2.1
  refine nf_join (nf_join (nf_front hcm) (nf_rep hm1 hj (n + 1)) fun x y hx hy => ?_) (nf_back h) fun x y hx hy => ?_
  · rw [head_rep hu n] at hy
    cases hy
    exact jn hcm hx hu
  · rw [List.getLast?_append, last_rep hz n] at hx
    cases hx
    exact jn h (by rw [List.getLast?_append, hz]; rfl) hy
end Fr

/-! rules of my own: a call by a positional promise, great powers, a tuple times a number, a tuple turned round -/
namespace N0
open PySem PySem.Spec PyProof.Rows L2 HT

structure Cl (P : Program) (w : World) (K : PySem.W.Frag) (mg : Str → Option Value) (base : Heap) (k : Nat) (x : Str) (sp : Sp) : Prop where
  ex : ∃ f : Addr, FnR P w K mg base CX0 k f sp ∧ mg x = some (.ref f) ∧ PySem.W.keepIn K (.ref f) = true
abbrev tFn (sp : Sp) (t : TA) : TE := fun σ H Q => t σ H fun vs H1 => sp vs H1 Q E0
section
variable {X : Cx} {x : Str} {k j : Nat} {sp : Sp} {e : Expr} {es : List Expr} {t : TA} {p pos : Pos}
theorem pe_f (c : Cl X.prog X.w X.K X.mg X.base k x sp) (hr : Room j X.A) (hk : k ≤ j) (hg : Gl X x) (ha : PA X (e :: es) t) (hdb : (x == ("__debug__" : Str)) = false := by decide)
    (he : starEach (e :: es) X.env = (false, eval e X.env) :: starEach es X.env := by rfl) (hpl : (backTo pos (starEach es X.env)).any (·.1) = false := by rfl) : PE X (.Call (.Name x p) (e :: es) [] pos) (tFn sp t) := by
  obtain ⟨f, F, hm, kp⟩ := c.ex
  refine ⟨fun pins s σ H Q I h => ?_⟩
  refine wpAny_Call_Name_kw (ld_glob I hg hm ?_ hdb)
  refine PySem.W.callWith_K (h₀ := X.base) I.ok.mod.kin kp (thn (ha.run pos pins s σ H _ I h) fun us s1 ⟨vs, H1, I1, r, q⟩ => ⟨I1.kIn, ?_⟩) he hpl
  exact wpAny_call (run_fnR F (hr.mono hk) pass0 I1 r q)
end
section
variable {P : Program} {w : World} {K : PySem.W.Frag} {mg : Str → Option Value} {base : Heap} {k : Nat} {x : Str} {sp sp' : Sp} {f : Addr} {fd : FuncData} {ps : List Str}
theorem cl_of (G : FnOk P w K mg base CX0 k f fd ps sp) (hm : mg x = some (.ref f)) (kp : PySem.W.keepIn K (.ref f) = true) (hb : Binds K fd ps []) : Cl P w K mg base k x sp :=
  ⟨f, (G.raw hb .nil).imp fun vs H Q E h => by rw [List.append_nil]; exact h, hm, kp⟩
theorem Cl.imp (c : Cl P w K mg base k x sp) (h : ∀ vs H Q E, sp' vs H Q E → sp vs H Q E) : Cl P w K mg base k x sp' := by
  obtain ⟨f, F, hm, kp⟩ := c.ex
  exact ⟨f, F.imp h, hm, kp⟩
end
def CPowG (i j : Int) : Prop := 0 ≤ j ∧ (Builtin.Int.intBits i : Int) * j ≤ 2 ^ 27
section
variable {X : Cx}
theorem op_powG : OpR X (binaryOp .Pow) (rI CPowG fun i j => .int (i ^ j.toNat)) := opI fun _ _ _ _ _ _ _ hc q => PyProof.Rows.pow_int hc.1 hc.2 q

/-! a tuple turned round -/
theorem pick_back (xs : Array Value) : ((List.range xs.size).filterMap fun (m : Nat) => xs[(((xs.size : Int) - 1) + (m : Int) * (-1)).toNat]?).toArray = xs.toList.reverse.toArray := by
  congr 1
  have h : ∀ m ∈ List.range xs.size, xs[(((xs.size : Int) - 1) + (m : Int) * (-1)).toNat]? = some (xs.toList.reverse.getD m .none) := fun m hm => by
    have hm := List.mem_range.mp hm
    have e : (((xs.size : Int) - 1) + (m : Int) * (-1)).toNat = xs.size - 1 - m := by omega
    rw [e, List.getD_eq_getElem?_getD, List.getElem?_reverse (by rw [Array.length_toList]; exact hm), Array.length_toList, Array.getElem?_toList, Array.getElem?_eq_getElem (by omega)]
    rfl
  have h2 : ∀ l : List Nat, (∀ m ∈ l, xs[(((xs.size : Int) - 1) + (m : Int) * (-1)).toNat]? = some (xs.toList.reverse.getD m .none)) → l.filterMap (fun (m : Nat) => xs[(((xs.size : Int) - 1) + (m : Int) * (-1)).toNat]?) = l.map fun m => xs.toList.reverse.getD m .none := fun l => by
    induction l with
    | nil => intro _; rfl
    | cons a l ih => intro hl; rw [List.filterMap_cons, hl a List.mem_cons_self, List.map_cons, ih fun m hm => hl m (List.mem_cons_of_mem _ hm)]
  rw [h2 _ h]
  refine List.ext_getElem? fun i => ?_
  rw [List.getElem?_map]
  by_cases hi : i < xs.size
  · rw [List.getElem?_range hi]
    show some (xs.toList.reverse.getD i .none) = _
    rw [List.getD_eq_getElem?_getD, List.getElem?_eq_getElem (by rw [List.length_reverse, Array.length_toList]; exact hi)]
    rfl
  · rw [List.getElem?_eq_none (by rw [List.length_range]; omega), List.getElem?_eq_none (by rw [List.length_reverse, Array.length_toList]; omega)]
    rfl
theorem back_applied {prog : Program} {w : World} {A : Around} {E : Value → Shared → Prop} {s : Shared} {sl : Addr} {vs : Value} {n : Nat} {Q : Int × Int × Nat → Shared → Prop} (hs : s.heap.IsSliceOf sl .none .none vs) (pv : IsPart vs (some (-1)))
    (h : Q (((n : Int) - 1), -1, n) s) : wpAny (model prog w) A (Builtin.Slice.sliceApplied (.ref sl) (pure (n : Int))) Q E s := by
  obtain ⟨os, ho, hcl, hda⟩ := id hs
  unfold Builtin.Slice.sliceApplied Builtin.Slice.sliceFields
  refine wpAny_bind (wpAny_bind (wpAny_field ho hda (x := .none) rfl (wpAny_bind (wpAny_field ho hda (x := .none) rfl (wpAny_bind (wpAny_field ho hda (x := vs) rfl (wpAny_pure ?_)))))))
  refine wpAny_bind (slicePart_ pv ?_)
  show wpAny _ _ (if ((-1 : Int) == 0) = true then _ else _) _ _ s
  rw [if_neg (by decide)]
  refine wpAny_bind (slicePart_none (wpAny_bind (slicePart_none (wpAny_bind (wpAny_pure ?_)))))
  have e1 : Builtin.Slice.sliceAdjust none none (-1) (n : Int) = ((n : Int) - 1, -1) := by
    unfold Builtin.Slice.sliceAdjust
    simp
  have e2 : Builtin.Slice.slicePlaces ((n : Int) - 1) (-1) (-1) = n := by
    unfold Builtin.Slice.slicePlaces
    simp
    omega
  show wpAny _ _ (match Builtin.Slice.sliceAdjust none none (-1) (n : Int) with | (a, b) => pure (a, (-1 : Int), Builtin.Slice.slicePlaces a b (-1))) _ _ s
  rw [e1]
  show wpAny _ _ (pure ((n : Int) - 1, (-1 : Int), Builtin.Slice.slicePlaces ((n : Int) - 1) (-1) (-1))) _ _ s
  rw [e2]
  exact wpAny_pure h
/-- t * k where t is empty or k is 1: t itself -/
theorem tup_mul_same (l : Addr) (items : Array Value) (n : Nat) (dd : Option Addr) (sl : Array (Option Value)) (x : Int) (u : Tok) (z0 : (decide (x < -(2 ^ 63)) || decide (x ≥ 2 ^ 63)) = false) (z1 : (items.isEmpty || x == 1) = true) :
    Meets (Builtin.«tuple.__mul__» ⟨[.ref l, .int x u], []⟩) (fun _ R s => s.heap.get? l = some { cls := .type "tuple", dict := dd, data := .seq items n, slots := sl } ∧ R (.ok (.ret (Value.ref l))) s) :=
  .of_wp fun prog w A R s h => by
    obtain ⟨hp, g, d, tk, os⟩ := s
    obtain ⟨hl, h⟩ := h
    have f1 := AutoSeq1.idx_int
    wp_walk using wpAny_loadPart' hl
    repeat (first
      | (refine wpAny_ite_false (decide_eq_false (by rw [z0]; exact Bool.false_ne_true)) ?_; wp_walk using wpAny_loadPart' hl)
      | (refine wpAny_ite_true (decide_eq_true z1) ?_; wp_walk using wpAny_loadPart' hl))
    exact ⟨_, rfl, h⟩
/-- t * k, k from 1 to 1000, t any tuple of at most 1000 -/
def rRepA (K : PySem.W.Frag) : R2 := fun x y H Q => ∃ l k xs, x = .ref l ∧ y = .int k ∧ SqT K H l xs ∧ 1 ≤ k ∧ k ≤ 1000 ∧ xs.length ≤ 1000 ∧
  (xs = [] ∨ k = 1 → Q (.ref l) H) ∧ (xs ≠ [] → 2 ≤ k → ∀ p, H p = none → Q (.ref p) (upd H p (.tup (List.replicate k.toNat xs).flatten)))
theorem op_repA : OpR X (binaryOp .Mult) (rRepA X.K) := by
  intro pn s sg H x y v u Q I rx ry h
  obtain ⟨l, k, xs, ex, ey, hT, k1, k2, hz, q1, q2⟩ := h
  by_cases hc : xs = [] ∨ k = 1
  · subst ex ey
    have q := q1 hc
    cases rx
    obtain ⟨t, rfl⟩ := ry
    obtain ⟨its, r, ⟨⟨cls, dd, data, sl⟩, ho, hcl, n, hd⟩, _⟩ := I.tuple hT
    simp only at hcl hd
    subst hcl hd
    have z0 : (decide (k < -(2 ^ 63)) || decide (k ≥ 2 ^ 63)) = false := by
      rw [decide_eq_false (by omega), decide_eq_false (by omega)] <;> rfl
    have z1 : (its.toArray.isEmpty || k == 1) = true := by
      rcases hc with e | e
      · subst e
        cases r
        rfl
      · rw [e, Bool.or_eq_true]
        exact .inr rfl
    exact wpAny_binaryOp_repeat_ref (T := "tuple") (U := "int") (by decide) ⟨_, ho, rfl⟩ (fun s' => typeIs_int s' k t) noFill_tuple_mul F.fills_int_mul F.slot_int_rmul repeat_tuple F.slot_int_index.lookup
      (call_meets F.slot_int_rmul (typeIs_int s k t) F.entry_int_rmul (F.args_int_rmul_2 _ _) (int_rmul_tuple k t l its.toArray n dd sl)
        ⟨ho, rfl, ⟨_, ho, rfl⟩, call_meets F.slot_tuple_mul ⟨_, ho, rfl⟩ F.entry_tuple_mul (F.args_tuple_mul_2 _ _) (tup_mul_same l its.toArray n dd sl k t z0 z1) ⟨ho, ⟨.ref l, H, I, rfl, q⟩⟩⟩)
  · have hn : xs ≠ [] := fun e => hc (.inl e)
    have h2 : k ≠ 1 := fun e => hc (.inr e)
    exact op_repT pn s sg H x y v u Q I rx ry ⟨l, k, xs, ex, ey, hT, hn, by omega, k2, hz, q2 hn (by omega)⟩

/-! t[::-1] -/
theorem tup_back {prog : Program} {w : World} {A : Around} {E : Value → Shared → Prop} {s : Shared} {t sl : Addr} {items : Array Value} {vs : Value} {Q : Value → Shared → Prop} (ht : IsTup s.heap t items) (hs : s.heap.IsSliceOf sl .none .none vs) (pv : IsPart vs (some (-1)))
    (h : Q (.ref s.heap.objs.size) { s with heap := s.heap.push { cls := .type "tuple", data := .seq items.toList.reverse.toArray } }) (hz : items.size ≤ sizeLine) : wpAny (model prog w) A (getItem (.ref t) (.ref sl)) Q E s := by
  have fit : sizeOk (.seq items.toList.reverse.toArray) := by
    show items.toList.reverse.toArray.size ≤ sizeLine
    rw [List.size_toArray, List.length_reverse, Array.length_toList]
    exact hz
  obtain ⟨os, ho, hcl, hda⟩ := id hs
  have hTy : s.TypeIs (.ref sl) "slice" := ⟨os, ho, hcl⟩
  unfold getItem
  try with_reducible refine wpAny_holding ?_
  first | refine wpAny_bind (wpAny_pure ?_) | skip
  refine wpAny_bind (wpAny_sequenceKey ht.typeIs (by decide) ?_)
  refine wpAny_bind (wpAny_callSpecial?_slot (name := Str.ofString "__getitem__") ht.typeIs PyProof.Rows.slot_tuple_getitem (wpAny_call_entry PyProof.Rows.slot_tuple_getitem ht.typeIs entry_tuple_getitem ?_ (args_tuple_getitem _ _)))
  show wpAny _ _ (Builtin.Tuple.tupleItemsOf (.ref t) >>= _) _ _ s
  refine wpAny_bind (tupleItemsOf_ ht (wpAny_bind (wpAny_typeOf hTy ?_)))
  rw [if_pos (by decide)]
  refine wpAny_bind (back_applied hs pv ?_)
  have hno : ¬ ((((items.size : Int) - 1) == 0 && (-1 : Int) == 1 && items.size == items.size) = true) := by
    rw [show ((-1 : Int) == 1) = false from rfl, Bool.and_false, Bool.false_and]
    exact Bool.false_ne_true
  show wpAny _ _ (if (((items.size : Int) - 1) == 0 && (-1 : Int) == 1 && items.size == items.size) = true then _ else _) _ _ s
  rw [if_neg hno, pick_back]
  first
    | exact wpAny_bind (m := Builtin.Tuple.tupleExact _) (wpAny_newObj_type (wpAny_pure ⟨_, rfl, wpAny_pure h⟩) fit)
    | exact wpAny_bind (m := Builtin.Tuple.tupleExact _) (wpAny_newObj_type (wpAny_bind (wpAny_pure (wpAny_pure ⟨_, rfl, wpAny_pure h⟩))) fit)
    | exact wpAny_bind (wpAny_bind (m := Builtin.Tuple.tupleExact _) (wpAny_newObj_type (wpAny_pure (wpAny_pure ⟨_, rfl, wpAny_pure h⟩)) fit))
    | exact wpAny_bind (wpAny_bind (m := Builtin.Tuple.tupleExact _) (wpAny_newObj_type (wpAny_pure ⟨_, rfl, wpAny_pure h⟩) fit))
def tRevT (K : PySem.W.Frag) (te : TE) : TE := fun σ H Q => te σ H fun x H1 => ∃ a xs, x = .ref a ∧ SqT K H1 a xs ∧ ∀ p, H1 p = none → Q (.ref p) (upd H1 p (.tup xs.reverse))
theorem pe_revT {e : Expr} {te : TE} {k : Nat} {p1 p2 p3 pos : Pos} (he : PE X e te) : PE X (.Subscript e (.Slice none none (some (.UnaryOp .USub (.Constant (.int 1) k p1) p2)) p3) pos) (tRevT X.K te) := by
  refine ⟨fun pn s sg H Q I h => ?_⟩
  refine Subscript_ (thn (he.run pn s sg H _ I h) fun v s1 ⟨x, H1, I1, r1, q1⟩ => ?_)
  obtain ⟨a, xs, ex, hx, q⟩ := q1
  subst ex
  cases r1
  have hst : PO X (some (.UnaryOp .USub (.Constant (.int 1) k p1) p2)) (tPart (tUn (rU fun i => .int (-i)) (tC (.int 1)))) := po_some (pe_un un_neg pe_int)
  refine wpAny_Slice (thn (po_none.run pn s1 sg H1 (fun o H2 => o = none ∧ H2 = H1) I1 ⟨rfl, rfl⟩) fun vl s2 ⟨l, H2, I2, pl, el, e2⟩ => ?_)
  subst el e2
  refine thn (po_none.run pn s2 sg H2 (fun o H3 => o = none ∧ H3 = H2) I2 ⟨rfl, rfl⟩) fun vu s3 ⟨u, H3, I3, pu, eu, e3⟩ => ?_
  subst eu e3
  refine thn (hst.run pn s3 sg H3 (fun o H4 => o = some (-1) ∧ H4 = H3) I3 ⟨1, rfl, -1, rfl, rfl, rfl⟩) fun vs s4 ⟨o, H4, I4, ps, eo, e4⟩ => ?_
  subst eo e4
  cases pl
  cases pu
  have I5 : Inv X pn sg H4 { s4 with heap := s4.heap.push { cls := .type "slice", data := .fields #[.none, .none, vs] } } := I4.kept (t' := s4.toks) fun b ob q => Heap.get?_push_of_some _ q
  obtain ⟨its, r, ht, hz⟩ := I5.tuple hx
  have hlen := r.length
  show wpAny (model X.prog X.w) X.A (subscriptTail e (.Slice none none (some (.UnaryOp .USub (.Constant (.int 1) k p1) p2)) p3) (.ref a) (.ref s4.heap.objs.size)) (EP X pn sg Q) X.xe { s4 with heap := s4.heap.push { cls := .type "slice", data := .fields #[.none, .none, vs] } }
  refine tail_any (ops := [.ref a, .ref s4.heap.objs.size]) ht.typeIs (PyProof.Rows.slot_tuple_getitem.lookup) ?_ (by with_unfolding_all rfl)
  refine tup_back ht (Heap.IsSliceOf.new _ .none .none vs) ps ?_ (by rw [List.size_toArray]; omega)
  refine ⟨.ref _, _, I5.laid (t' := s4.toks) (o := .tup xs.reverse) (fun b ob q => Heap.get?_push_of_some _ q) (Nat.le_refl _) ?_, rfl, q _ (I5.hok.fresh (Nat.le_refl _))⟩
  exact ⟨by rw [List.length_reverse]; exact hz, _, r.reverse, IsTup.new _ _⟩
end
end N0
namespace N0
open PySem
theorem bo_len : bootBuiltins "len" = some (.builtin "len") := by decide +kernel
theorem bo_abs : bootBuiltins "abs" = some (.builtin "abs") := by decide +kernel
theorem bo_max : bootBuiltins "max" = some (.builtin "max") := by decide +kernel
theorem bo_min : bootBuiltins "min" = some (.builtin "min") := by decide +kernel
theorem bo_all : bootBuiltins "all" = some (.builtin "all") := by decide +kernel
theorem bo_any : bootBuiltins "any" = some (.builtin "any") := by decide +kernel
theorem bo_sum : bootBuiltins "sum" = some (.builtin "sum") := by decide +kernel
theorem bo_isinstance : bootBuiltins "isinstance" = some (.builtin "isinstance") := by decide +kernel
theorem bo_int : bootBuiltins "int" = some (.type "int") := by decide +kernel
theorem bo_bool : bootBuiltins "bool" = some (.type "bool") := by decide +kernel
theorem bo_str : bootBuiltins "str" = some (.type "str") := by decide +kernel
theorem bo_list : bootBuiltins "list" = some (.type "list") := by decide +kernel
theorem bo_tuple : bootBuiltins "tuple" = some (.type "tuple") := by decide +kernel
end N0
namespace N0
open PySem PySem.Spec PyProof.Rows L2 HT
/-! the rules over the written part, this one said by name -/
theorem rel_ty {n : String} : RelV (.ty n) (.type n) := rfl
theorem rel_int {i : Int} {t : Tok} : RelV (.int i) (.int i t) := ⟨_, rfl⟩
section
variable {X : Cx} {K : PySem.W.Frag}
theorem kix_tup (h : X.K = K := by rfl) : IxR X (rIxT K) := h ▸ ix_tup
theorem kix_list (h : X.K = K := by rfl) : IxR X (rIxL K) := h ▸ ix_list
theorem ksl_tupA (h : X.K = K := by rfl) : SlR X (rSlA K) := h ▸ sl_tupA
theorem ksl_list (h : X.K = K := by rfl) : SlR X (rSlL K) := h ▸ sl_list
theorem kop_catA (h : X.K = K := by rfl) : OpR X (binaryOp .Add) (rCatA K) := h ▸ op_catA
theorem kop_repA (h : X.K = K := by rfl) : OpR X (binaryOp .Mult) (rRepA K) := h ▸ op_repA
theorem kop_eqD (hu : X.A.units + 64 < cLine) (h : X.K = K := by rfl) : OpR X (compareOp .Eq) (rEqD K) := h ▸ op_eqD hu
theorem kop_neD (hu : X.A.units + 64 < cLine) (h : X.K = K := by rfl) : OpR X (compareOp .NotEq) (rNeD K) := h ▸ op_neD hu
theorem kcall_isi (h : X.K = K := by rfl) : CallR X (.builtin "isinstance") (rIsi K) := h ▸ call_isi
theorem kcr_all (hc : X.calm = true) (h : X.K = K := by rfl) : CallR X (.builtin "all") (rAll K) := h ▸ cr_all hc
theorem kcr_any (hc : X.calm = true) (h : X.K = K := by rfl) : CallR X (.builtin "any") (rAny K) := h ▸ cr_any hc
theorem kcr_sum (hc : X.calm = true) (h : X.K = K := by rfl) : CallR X (.builtin "sum") (rSum K) := h ▸ cr_sum hc
theorem kcr_min (hc : X.calm = true) (h : X.K = K := by rfl) : CallR X (.builtin "min") (rMin K) := h ▸ cr_min hc
def rLen (K : PySem.W.Frag) : List V → Hp → VK → Prop := fun xs H Q => ∃ p ys, xs = [.ref p] ∧ (SqL K H p ys ∨ SqT K H p ys) ∧ Q (.int ys.length) H
theorem kcall_len (h : X.K = K := by rfl) : CallR X (.builtin "len") (rLen K) := h ▸ call_len_seq
def rListOf (K : PySem.W.Frag) : List V → Hp → VK → Prop := fun xs H Q => ∃ p ys, xs = [.ref p] ∧ (SqL K H p ys ∨ SqT K H p ys) ∧ ∀ l, H l = none → Q (.ref l) (upd H l (.lst ys))
theorem kcall_list (h : X.K = K := by rfl) : CallR X (.type "list") (rListOf K) := h ▸ call_list_of
def rTupOf (K : PySem.W.Frag) : List V → Hp → VK → Prop := fun xs H Q => ∃ p ys, xs = [.ref p] ∧ ((SqL K H p ys ∧ ∀ l, H l = none → Q (.ref l) (upd H l (.tup ys))) ∨ (SqT K H p ys ∧ Q (.ref p) H))
theorem kcall_tuple (h : X.K = K := by rfl) : CallR X (.type "tuple") (rTupOf K) := h ▸ call_tuple_of
variable {tg l : Expr} {tl : TE}
theorem kpi_list (hl : PE X l tl) (h : X.K = K := by rfl) : PI X tg l (iList K tl) := h ▸ pi_list hl
theorem kpi_tup (hl : PE X l tl) (h : X.K = K := by rfl) : PI X tg l (iTup K tl) := h ▸ pi_tup hl
theorem kpt_truth {a : Expr} {ta : TE} (ha : PE X a ta) (he : ∀ whole, isTrue a X.env whole = (do let v ← whole; standAt a.pos; holding [v] (truthy v))) (h : X.K = K := by rfl) :
    PT X a (fun σ H Q => ta σ H fun x H' => ∃ k, TruV K x H' k ∧ Q k H') := h ▸ pt_truth ha he
theorem kpe_revT {e : Expr} {te : TE} {k : Nat} {p1 p2 p3 pos : Pos} (he : PE X e te) (h : X.K = K := by rfl) : PE X (.Subscript e (.Slice none none (some (.UnaryOp .USub (.Constant (.int 1) k p1) p2)) p3) pos) (tRevT K te) := h ▸ pe_revT he
theorem kpg_tup {es : List Expr} {k : Nat} {t : TGs} {n : Nat} {pos : Pos} (hc : X.calm = true) (hh : PGs X es t) (h : X.K = K := by rfl)
    (hn : (assignEach es X.env).length = n := by rfl) (hst : (assignEach es X.env).findIdx? (·.1) = none := by rfl) : PG X (.Tuple es k pos) (gTup K n t) := h ▸ pg_tup hc hh hn hst
end
end N0

namespace N0
open PySem PySem.Spec PyProof.Rows L2 HT
/-! ### what stays: all but a sack of three numbers -/
def Sk (H : Hp) : Option Addr → Prop
  | none => True
  | some s => ∃ a b c : Int, H s = some (.lst [.int a, .int b, .int c])
structure Rs (S : Option Addr) (H H' : Hp) : Prop where
  s0 : Sk H S
  s1 : Sk H' S
  keep : ∀ a o, S ≠ some a → H a = some o → H' a = some o
section
variable {S : Option Addr} {H H1 H2 : Hp} {K : PySem.W.Frag} {a p : Addr} {xs : List V} {o : HO}
theorem Rs.of (h : Sk H S) : Rs S H H := ⟨h, h, fun _ _ _ e => e⟩
theorem Rs.r1 (r : Rs S H H1) : Rs S H1 H1 := .of r.s1
theorem Rs.tr (r : Rs S H H1) (q : Rs S H1 H2) : Rs S H H2 := ⟨r.s0, q.s1, fun a o n e => q.keep a o n (r.keep a o n e)⟩
theorem Sk.same (h : Sk H S) (e : Same H H1) : Sk H1 S := by
  cases S with
  | none => exact True.intro
  | some s => obtain ⟨a, b, c, q⟩ := h; exact ⟨a, b, c, e _ _ q⟩
theorem Rs.same (h : Sk H S) (e : Same H H1) : Rs S H H1 := ⟨h, h.same e, fun a o _ q => e a o q⟩
theorem Rs.to (r : Rs none H H1) : Same H H1 := fun a o e => r.keep a o (fun q => nomatch q) e
theorem Sk.ne (r : Sk H S) (h : H a = some o) (hn : ∀ ys, o ≠ .lst ys) : S ≠ some a := fun q => by
  subst q
  obtain ⟨x, y, z, e⟩ := r
  rw [h] at e
  cases e
  exact hn _ rfl
theorem Rs.tup (r : Rs S H H1) (h : SqT K H a xs) : SqT K H1 a xs := by
  rcases h with (h | ⟨o, h⟩) | h
  · exact .inl (.inl (r.keep _ _ (r.s0.ne h fun _ q => nomatch q) h))
  · exact .inl (.inr ⟨o, r.keep _ _ (r.s0.ne h fun _ q => nomatch q) h⟩)
  · exact .inr h
theorem Rs.lst (r : Rs S H H1) (n : S ≠ some a) (h : SqL K H a xs) : SqL K H1 a xs := by
  rcases h with (h | ⟨o, h⟩) | h
  · exact .inl (.inl (r.keep _ _ n h))
  · exact .inl (.inr ⟨o, r.keep _ _ n h⟩)
  · exact .inr h
theorem new_same (hp : H p = none) : Same H (upd H p o) := fun b u e => by
  rw [upd_ne (ne_of_none e hp)]
  exact e
theorem same_tup (e : Same H H1) (h : SqT K H a xs) : SqT K H1 a xs := (Rs.same (S := none) True.intro e).tup h
/-- a thing that was not there may change -/
theorem same_mut (e : Same H H1) (hp : H p = none) : Same H (upd H1 p o) := fun b u q => by
  rw [upd_ne (ne_of_none q hp)]
  exact e b u q
theorem tup_of (h : H a = some (.tup xs)) : SqT K H a xs := .inl (.inl h)
theorem lst_of (h : H a = some (.lst xs)) : SqL K H a xs := .inl (.inl h)
theorem Rs.fresh (r : Rs S H H1) (hp : H1 p = none) (h0 : H p = none ∨ S = some p ∨ True) : S ≠ some p := fun q => by
  subst q
  obtain ⟨x, y, z, e⟩ := r.s1
  rw [hp] at e
  cases e
end

/-! ### kinds of values -/
/-- an entry of a tuple: a number, or something else -/
inductive En (K : PySem.W.Frag) (H : Hp) : V → Option Int → Prop
  | int (i : Int) : En K H (.int i) (some i)
  | oth {v : V} {t : String} {i b : Bool} (h : TyX K H v (.type t)) (k1 : kitB t "int" = some i) (k2 : kitB t "bool" = some b) (k3 : (i && !b) = false) : En K H v none
/-- a value: a tuple of entries, or something else -/
inductive Va (K : PySem.W.Frag) (H : Hp) : V → Option (List (Option Int)) → Prop
  | tup {a : Addr} {xs : List V} {os : List (Option Int)} (h : SqT K H a xs) (hl : xs.length = os.length) (he : ∀ (j : Nat) x o, xs[j]? = some x → os[j]? = some o → En K H x o) : Va K H (.ref a) (some os)
  | oth {v : V} {t : String} (h : TyX K H v (.type t)) (k : kitB t "tuple" = some false) : Va K H v none
section
variable {K : PySem.W.Frag} {H H1 : Hp}
theorem tyx_same {v : V} {t : Value} (e : Same H H1) (h : TyX K H v t) : TyX K H1 v t := by
  cases h with
  | base b =>
    refine .base ?_
    cases b with
    | non => exact .non
    | bl y => exact .bl y
    | int i => exact .int i
    | str y => exact .str y
    | flt y => exact .flt y
    | lst ea => exact .lst (e _ _ ea)
    | frz ea => exact .frz (e _ _ ea)
    | tup ea => exact .tup (e _ _ ea)
    | dK ea => exact .dK (e _ _ ea)
    | dT ea => exact .dT (e _ _ ea)
    | ins ea cl ha hn htk hm => exact .ins (e _ _ ea) cl ha hn htk hm
  | byt b => exact .byt b
  | set ea => exact .set (e _ _ ea)
  | kList ea c => exact .kList ea c
  | kTuple ea c => exact .kTuple ea c
  | kDict ea c => exact .kDict ea c
  | fTuple ea => exact .fTuple (e _ _ ea)
  | fDict ea => exact .fDict (e _ _ ea)
theorem En.same {v : V} {o : Option Int} (e : Same H H1) (h : En K H v o) : En K H1 v o := by
  cases h with
  | int i => exact .int i
  | oth h k1 k2 k3 => exact .oth (tyx_same e h) k1 k2 k3
theorem tyx_tup {a : Addr} {xs : List V} (h : SqT K H a xs) : TyX K H (.ref a) (.type "tuple") := by
  rcases h with (h | ⟨o, h⟩) | ⟨o, its, n, hk, hc, _⟩
  · exact .base (.tup h)
  · exact .fTuple h
  · exact .kTuple hk hc
/-- whether an entry is a letter or a contrary -/
def okE (n : Int) : Option Int → Bool
  | some i => decide (1 ≤ (if i < 0 then -i else i)) && decide ((if i < 0 then -i else i) ≤ n)
  | none => false
def intsOf : List (Option Int) → List Int
  | [] => []
  | some i :: r => i :: intsOf r
  | none :: r => intsOf r
/-- no entry beside its opposite, as the program asks it -/
def nfB (ns : List Int) : Bool := (List.range (ns.length - 1)).all fun j => !decide (ns.getD j 0 = - ns.getD (j + 1) 0)
def rowB (n m : Int) (os : List (Option Int)) : Bool := !decide (m < os.length) && os.all (okE n)
def bareB (n m : Int) (os : List (Option Int)) : Bool := rowB n m os && nfB (intsOf os)
theorem intsOf_some (ns : List Int) : intsOf (ns.map some) = ns := by
  induction ns with
  | nil => rfl
  | cons a l ih => show a :: intsOf (l.map some) = a :: l; rw [ih]
theorem all_some {n : Int} : ∀ {os : List (Option Int)}, os.all (okE n) = true → os = (intsOf os).map some
  | [], _ => rfl
  | some i :: r, h => by
    rw [List.all_cons, Bool.and_eq_true] at h
    show some i :: r = some i :: (intsOf r).map some
    rw [← all_some h.2]
  | none :: r, h => by
    rw [List.all_cons, Bool.and_eq_true] at h
    exact absurd h.1 Bool.false_ne_true
/-- a tuple of numbers as a value -/
theorem va_ints {a : Addr} {ns : List Int} (h : SqT K H a (ns.map V.int)) : Va K H (.ref a) (some (ns.map some)) := by
  refine .tup h (by rw [List.length_map, List.length_map]) fun j x o hx ho => ?_
  rw [List.getElem?_map] at hx ho
  cases q : ns[j]? with
  | none => rw [q] at hx; cases hx
  | some i =>
    rw [q] at hx ho
    cases hx
    cases ho
    exact .int i
theorem nfB_iff : ∀ {ns : List Int}, nfB ns = true ↔ Fr.Nf ns := by
  have key : ∀ ns : List Int, Fr.Nf ns ↔ ∀ j, j < ns.length - 1 → ns.getD j 0 ≠ - ns.getD (j + 1) 0 := fun ns => by
    induction ns with
    | nil => exact ⟨fun _ j hj => absurd hj (Nat.not_lt_zero _), fun _ => True.intro⟩
    | cons x t ih =>
      cases t with
      | nil => exact ⟨fun _ j hj => absurd hj (Nat.not_lt_zero _), fun _ => True.intro⟩
      | cons y t =>
        constructor
        · intro h j hj
          cases j with
          | zero => exact h.1
          | succ j =>
            have := (ih.mp h.2) j (by simp at hj ⊢; omega)
            exact this
        · intro h
          refine ⟨h 0 (by simp), ih.mpr fun j hj => ?_⟩
          exact h (j + 1) (by simp at hj ⊢; omega)
  intro ns
  rw [key ns]
  unfold nfB
  rw [List.all_eq_true]
  constructor
  · intro h j hj
    have := h j (List.mem_range.mpr hj)
    rw [Bool.not_eq_true'] at this
    exact of_decide_eq_false this
  · intro h j hj
    rw [Bool.not_eq_true']
    exact decide_eq_false (h j (List.mem_range.mp hj))
/-- letters and contraries of n letters -/
def Lt (n : Int) (ns : List Int) : Prop := ∀ i ∈ ns, i ≠ 0 ∧ -n ≤ i ∧ i ≤ n
/-- a word of n letters -/
structure Wd (n : Int) (ns : List Int) : Prop where
  lt : Lt n ns
  nf : Fr.Nf ns
theorem okE_lt {n : Int} {ns : List Int} (h : Lt n ns) : (ns.map some).all (okE n) = true := by
  rw [List.all_eq_true]
  intro o ho
  obtain ⟨i, hi, rfl⟩ := List.mem_map.mp ho
  obtain ⟨h0, h1, h2⟩ := h i hi
  show (decide _ && decide _) = true
  rw [Bool.and_eq_true]
  refine ⟨decide_eq_true ?_, decide_eq_true ?_⟩ <;> split <;> omega
theorem lt_okE {n : Int} {ns : List Int} (h : (ns.map some).all (okE n) = true) : Lt n ns := fun i hi => by
  have := List.all_eq_true.mp h (some i) (List.mem_map.mpr ⟨i, hi, rfl⟩)
  have h2 : (decide (1 ≤ (if i < 0 then -i else i)) && decide ((if i < 0 then -i else i) ≤ n)) = true := this
  rw [Bool.and_eq_true] at h2
  have a1 := of_decide_eq_true h2.1
  have a2 := of_decide_eq_true h2.2
  split at a1 <;> split at a2 <;> omega
theorem row_wd {n m : Int} {ns : List Int} (h : Lt n ns) (hm : (ns.length : Int) ≤ m) : rowB n m (ns.map some) = true := by
  unfold rowB
  rw [okE_lt h, List.length_map, Bool.and_true, Bool.not_eq_true']
  exact decide_eq_false (by omega)
theorem bare_wd {n m : Int} {ns : List Int} (h : Wd n ns) (hm : (ns.length : Int) ≤ m) : bareB n m (ns.map some) = true := by
  unfold bareB
  rw [row_wd h.lt hm, intsOf_some, nfB_iff.mpr h.nf]
  rfl
theorem lt_app {n : Int} {a b : List Int} (ha : Lt n a) (hb : Lt n b) : Lt n (a ++ b) := fun i hi => by
  rcases List.mem_append.mp hi with h | h
  · exact ha i h
  · exact hb i h
theorem lt_push {n e : Int} {s : List Int} (he : e ≠ 0 ∧ -n ≤ e ∧ e ≤ n) (hs : Lt n s) : Lt n (Fr.push e s) := by
  cases s with
  | nil => intro i hi; rw [List.mem_singleton.mp hi]; exact he
  | cons x t =>
    by_cases hx : x = -e
    · rw [Fr.push_eq hx]; exact fun i hi => hs i (List.mem_cons_of_mem _ hi)
    · rw [Fr.push_on hx]
      intro i hi
      rcases List.mem_cons.mp hi with h | h
      · rw [h]; exact he
      · exact hs i h
theorem lt_act {n : Int} : ∀ {w s : List Int}, Lt n w → Lt n s → Lt n (Fr.act w s)
  | [], _, _, hs => hs
  | e :: w, _, hw, hs => lt_act (w := w) (fun i hi => hw i (List.mem_cons_of_mem _ hi)) (lt_push (hw e List.mem_cons_self) hs)
theorem lt_rev {n : Int} {w : List Int} (h : Lt n w) : Lt n w.reverse := fun i hi => h i (List.mem_reverse.mp hi)
theorem lt_nil {n : Int} : Lt n [] := fun _ h => nomatch h
theorem wd_red {n : Int} {w : List Int} (h : Lt n w) : Wd n (Fr.red w) := ⟨lt_rev (lt_act h lt_nil), Fr.red_nf w⟩
theorem lt_opp {n : Int} {w : List Int} (h : Lt n w) : Lt n (Fr.opp w) := fun i hi => by
  unfold Fr.opp at hi
  obtain ⟨j, hj, e⟩ := List.mem_map.mp (List.mem_reverse.mp hi)
  have := h j hj
  omega
theorem len_push (e : Int) (s : List Int) : (Fr.push e s).length ≤ s.length + 1 := by
  cases s with
  | nil => exact Nat.le_refl _
  | cons x t =>
    by_cases hx : x = -e
    · rw [Fr.push_eq hx]; simp; omega
    · rw [Fr.push_on hx]; simp
theorem len_act : ∀ (w s : List Int), (Fr.act w s).length ≤ s.length + w.length
  | [], s => Nat.le_refl _
  | e :: w, s => by
    have h1 := len_act w (Fr.push e s)
    have h2 := len_push e s
    show (Fr.act w (Fr.push e s)).length ≤ _
    rw [List.length_cons]
    omega
theorem len_red (w : List Int) : (Fr.red w).length ≤ w.length := by
  have := len_act w []
  unfold Fr.red
  rw [List.length_reverse]
  simpa using this
end
/-! ### equality of tuples of numbers -/
theorem eqv_ints : ∀ a b : List Int, PyData.eqvAll (a.map PyData.int) (b.map PyData.int) = decide (a = b)
  | [], [] => rfl
  | [], _ :: _ => rfl
  | _ :: _, [] => rfl
  | x :: a, y :: b => by
    show (PyData.eqv (.int x) (.int y) && PyData.eqvAll (a.map PyData.int) (b.map PyData.int)) = _
    rw [eqv_ints a b]
    show ((x == y) && decide (a = b)) = decide (x :: a = y :: b)
    by_cases h : x = y
    · subst h
      by_cases h2 : a = b
      · subst h2; simp
      · simp [h2]
    · simp [h]
theorem eqv_tup (a b : List Int) : PyData.eqv (.tuple (a.map .int)) (.tuple (b.map .int)) = decide (a = b) := eqv_ints a b
theorem canLay_ints : ∀ a : List Int, PyData.canLayAll0 (a.map PyData.int) = true
  | [] => rfl
  | x :: a => by
    show (PyData.canLay0 (.int x) && PyData.canLayAll0 (a.map PyData.int)) = true
    rw [canLay_ints a]
    rfl
theorem dp_ints {K : PySem.W.Frag} {H : Hp} : ∀ ns : List Int, DpAll K H (ns.map V.int) (ns.map PyData.int)
  | [] => .nil
  | x :: a => .cons (.int x) (dp_ints a)
theorem dp_tup {K : PySem.W.Frag} {H : Hp} {a : Addr} {ns : List Int} (h : SqT K H a (ns.map V.int)) : Dp K H (.ref a) (.tuple (ns.map .int)) := .tup h (dp_ints ns)
end N0

namespace N0
open PySem PySem.Spec PyProof.Rows L2 HT
section
variable {K : PySem.W.Frag} {H : Hp} {a b : Addr} {ns ms : List Int} {Q : VK}
def cutI (ns : List Int) (lo hi : Option Int) : List Int := (ns.drop (sIx ns.length 0 lo)).take (sIx ns.length ns.length hi - sIx ns.length 0 lo)
theorem cut_map (ns : List Int) (lo hi : Option Int) : cutV (ns.map V.int) lo hi = (cutI ns lo hi).map V.int := by
  unfold cutV cutI
  rw [List.map_take, List.map_drop, List.length_map]
theorem sl_ints {lo hi : Option Int} (h : SqT K H a (ns.map V.int)) (k : ∀ H' p, Same H H' → SqT K H' p ((cutI ns lo hi).map V.int) → Q (.ref p) H') : rSlA K (.ref a) lo hi H Q := by
  refine ⟨a, _, rfl, h, fun hw => k _ _ (Same.refl _) ?_, fun _ p hp => k _ _ (new_same hp) (tup_of (by rw [upd_same, cut_map]))⟩
  rw [List.length_map] at hw
  unfold cutI
  rw [hw.1, hw.2, List.drop_zero, Nat.sub_zero, List.take_length]
  exact h
theorem cat_ints (h : SqT K H a (ns.map V.int)) (h2 : SqT K H b (ms.map V.int)) (hz : ns.length + ms.length ≤ 100000) (k : ∀ H' p, Same H H' → SqT K H' p ((ns ++ ms).map V.int) → Q (.ref p) H') : rCatA K (.ref a) (.ref b) H Q := by
  refine ⟨a, b, _, _, rfl, rfl, h, h2, ?_, fun e => k _ _ (Same.refl _) ?_, fun _ e => k _ _ (Same.refl _) ?_, fun _ _ p hp => k _ _ (new_same hp) (tup_of (by rw [upd_same, List.map_append]))⟩
  · rw [List.length_map, List.length_map]
    exact Nat.le_trans hz (by decide)
  · have : ns = [] := List.map_eq_nil_iff.mp e
    subst this
    exact h2
  · have : ms = [] := List.map_eq_nil_iff.mp e
    subst this
    rw [List.append_nil]
    exact h
theorem flat_map_rep (ns : List Int) : ∀ k : Nat, (List.replicate k (ns.map V.int)).flatten = (Fr.rep ns k).map V.int := fun k => by
  rw [← Fr.flat_rep, List.map_flatten, List.map_replicate]
theorem rep_ints {k : Int} (h : SqT K H a (ns.map V.int)) (k1 : 1 ≤ k) (k2 : k ≤ 1000) (hz : ns.length ≤ 1000) (q : ∀ H' p, Same H H' → SqT K H' p ((Fr.rep ns k.toNat).map V.int) → Q (.ref p) H') : rRepA K (.ref a) (.int k) H Q := by
  refine ⟨a, k, _, rfl, rfl, h, k1, k2, by rw [List.length_map]; exact hz, fun e => q _ _ (Same.refl _) ?_, fun _ _ p hp => q _ _ (new_same hp) (tup_of (by rw [upd_same, flat_map_rep]))⟩
  rcases e with e | e
  · have : ns = [] := List.map_eq_nil_iff.mp e
    subst this
    rw [Fr.rep_nil]
    exact h
  · subst e
    show SqT K H a ((Fr.rep ns 1).map V.int)
    exact h
theorem cutI_to (ns : List Int) (d : Nat) : cutI ns none (some (d : Int)) = ns.take d := by
  unfold cutI
  rw [sIx_none, sIx_nat, List.drop_zero, Nat.sub_zero]
  by_cases h : d ≤ ns.length
  · rw [Nat.min_eq_left h]
  · rw [Nat.min_eq_right (by omega), List.take_length, List.take_of_length_le (by omega)]
theorem cutI_from (ns : List Int) (d : Nat) : cutI ns (some (d : Int)) none = ns.drop d := by
  unfold cutI
  rw [sIx_none, sIx_nat]
  by_cases h : d ≤ ns.length
  · rw [Nat.min_eq_left h, List.take_of_length_le (by rw [List.length_drop]; omega)]
  · rw [Nat.min_eq_right (by omega), Nat.sub_self, List.take_zero, List.drop_of_length_le (by omega)]
theorem cutI_mid (ns : List Int) (d e : Nat) (he : e ≤ ns.length) (hd : d ≤ e) : cutI ns (some (d : Int)) (some (e : Int)) = (ns.drop d).take (e - d) := by
  unfold cutI
  rw [sIx_nat, sIx_nat, Nat.min_eq_left he, Nat.min_eq_left (by omega)]
end
theorem depth_ints : ∀ ns : List Int, PyData.depthAll (ns.map PyData.int) = 0
  | [] => rfl
  | x :: a => by
    show max (PyData.depth (.int x)) (PyData.depthAll (a.map PyData.int)) = 0
    rw [depth_ints a]
    rfl
theorem shaped_list (ns : List Int) : SeqAt.shaped (.list (ns.map .int)) = true := by
  unfold SeqAt.shaped
  rw [show PyData.canLay0 (.list (ns.map .int)) = PyData.canLayAll0 (ns.map .int) from rfl, canLay_ints, show PyData.depth (.list (ns.map .int)) = PyData.depthAll (ns.map .int) + 1 from rfl, depth_ints]
  rfl
theorem shaped_tup (ns : List Int) : SeqAt.shaped (.tuple (ns.map .int)) = true := by
  unfold SeqAt.shaped
  rw [show PyData.canLay0 (.tuple (ns.map .int)) = PyData.canLayAll0 (ns.map .int) from rfl, canLay_ints, show PyData.depth (.tuple (ns.map .int)) = PyData.depthAll (ns.map .int) + 1 from rfl, depth_ints]
  rfl
theorem eqv_list (a b : List Int) : PyData.eqv (.list (a.map .int)) (.list (b.map .int)) = decide (a = b) := eqv_ints a b
theorem dp_list {K : PySem.W.Frag} {H : Hp} {a : Addr} {ns : List Int} (h : SqL K H a (ns.map V.int)) : Dp K H (.ref a) (.list (ns.map .int)) := .lst h (dp_ints ns)
/-- two tuples of numbers compared -/
theorem ne_tup {K : PySem.W.Frag} {H : Hp} {a b : Addr} {ns ms : List Int} {Q : VK} (h : SqT K H a (ns.map V.int)) (h2 : SqT K H b (ms.map V.int)) (q : Q (.bl (!decide (ns = ms))) H) : rNeD K (.ref a) (.ref b) H Q :=
  ⟨_, _, dp_tup h, dp_tup h2, shaped_tup ns, shaped_tup ms, by rw [eqv_tup]; exact q⟩
theorem eq_tup {K : PySem.W.Frag} {H : Hp} {a b : Addr} {ns ms : List Int} {Q : VK} (h : SqT K H a (ns.map V.int)) (h2 : SqT K H b (ms.map V.int)) (q : Q (.bl (decide (ns = ms))) H) : rEqD K (.ref a) (.ref b) H Q :=
  ⟨_, _, dp_tup h, dp_tup h2, shaped_tup ns, shaped_tup ms, by rw [eqv_tup]; exact q⟩
theorem ne_list {K : PySem.W.Frag} {H : Hp} {a b : Addr} {ns ms : List Int} {Q : VK} (h : SqL K H a (ns.map V.int)) (h2 : SqL K H b (ms.map V.int)) (q : Q (.bl (!decide (ns = ms))) H) : rNeD K (.ref a) (.ref b) H Q :=
  ⟨_, _, dp_list h, dp_list h2, shaped_list ns, shaped_list ms, by rw [eqv_list]; exact q⟩
/-! the core by its two ends -/
def Pal (ns : List Int) (d : Nat) : Prop := 2 * d ≤ ns.length ∧ ∀ j, j < d → ns.getD j 0 = - ns.getD (ns.length - 1 - j) 0
theorem getD_of {ns : List Int} {j : Nat} (h : j < ns.length) : ns[j]? = some (ns.getD j 0) := by
  rw [List.getD_eq_getElem?_getD, List.getElem?_eq_getElem h]
  rfl
theorem pal_split {ns : List Int} {d : Nat} (h : Pal ns d) : ns = ns.take d ++ (ns.drop d).take (ns.length - d - d) ++ Fr.opp (ns.take d) := by
  obtain ⟨h1, h2⟩ := h
  have e : Fr.opp (ns.take d) = ns.drop (ns.length - d) := by
    refine List.ext_getElem? fun j => ?_
    by_cases hj : j < d
    · have a1 : (Fr.opp (ns.take d))[j]? = some (- ns.getD (d - 1 - j) 0) := by
        unfold Fr.opp
        rw [List.getElem?_reverse (by rw [List.length_map, List.length_take]; omega), List.length_map, List.length_take, Nat.min_eq_left (by omega), List.getElem?_map, List.getElem?_take, if_pos (by omega), getD_of (by omega)]
        rfl
      rw [a1, List.getElem?_drop, getD_of (by omega), h2 (d - 1 - j) (by omega), Int.neg_neg]
      have : ns.length - 1 - (d - 1 - j) = ns.length - d + j := by omega
      rw [this]
    · rw [List.getElem?_eq_none (by rw [Fr.opp_len, List.length_take]; omega), List.getElem?_eq_none (by rw [List.length_drop]; omega)]
  rw [e]
  have e2 : ns.drop d = (ns.drop d).take (ns.length - d - d) ++ ns.drop (ns.length - d) := by
    have := (List.take_append_drop (ns.length - d - d) (ns.drop d)).symm
    rw [List.drop_drop] at this
    have e3 : d + (ns.length - d - d) = ns.length - d := by omega
    rw [e3] at this
    exact this
  rw [List.append_assoc, ← e2, List.take_append_drop]
theorem nf_at : ∀ {ns : List Int}, Fr.Nf ns → ∀ j, j + 1 < ns.length → ns.getD j 0 ≠ - ns.getD (j + 1) 0
  | [], _, j, h => absurd h (Nat.not_lt_zero _)
  | [_], _, j, h => by simp at h
  | x :: y :: t, hn, 0, _ => hn.1
  | x :: y :: t, hn, j + 1, h => nf_at (ns := y :: t) hn.2 j (by simp at h ⊢; omega)
theorem pal_mid {n : Int} {ns : List Int} {d : Nat} (hw : Wd n ns) (h : Pal ns d) (hn : ns ≠ []) (stop : ¬ (2 * d + 1 < ns.length ∧ ns.getD d 0 = - ns.getD (ns.length - 1 - d) 0)) :
    (ns.drop d).take (ns.length - d - d) ≠ [] ∧ ∀ x y, ((ns.drop d).take (ns.length - d - d)).getLast? = some x → ((ns.drop d).take (ns.length - d - d)).head? = some y → x ≠ -y := by
  have hp : 0 < ns.length := List.length_pos_iff.mpr hn
  obtain ⟨h1, h2⟩ := h
  have h3 : 2 * d < ns.length := by
    by_cases q : 2 * d = ns.length
    · exfalso
      have hd : 0 < d := by omega
      have a1 := h2 (d - 1) (by omega)
      have e : ns.length - 1 - (d - 1) = d - 1 + 1 := by omega
      rw [e] at a1
      exact nf_at hw.nf (d - 1) (by omega) a1
    · omega
  have hlen : ((ns.drop d).take (ns.length - d - d)).length = ns.length - d - d := by rw [List.length_take, List.length_drop]; omega
  refine ⟨fun q => by rw [q] at hlen; simp at hlen; omega, fun x y hx hy => ?_⟩
  rw [List.getLast?_eq_getElem?, hlen, List.getElem?_take, if_pos (by omega), List.getElem?_drop, getD_of (by omega)] at hx
  rw [List.head?_eq_getElem?, List.getElem?_take, if_pos (by omega), List.getElem?_drop, getD_of (by omega)] at hy
  cases hx
  cases hy
  have e1 : d + (ns.length - d - d - 1) = ns.length - 1 - d := by omega
  rw [e1, Nat.add_zero]
  intro q
  by_cases h4 : 2 * d + 1 < ns.length
  · exact stop ⟨h4, by omega⟩
  · have e2 : ns.length - 1 - d = d := by omega
    rw [e2] at q
    have := (hw.lt (ns.getD d 0) (List.mem_of_getElem? (getD_of (ns := ns) (j := d) (by omega)))).1
    omega
end N0

namespace N0
open PySem PySem.Spec PyProof.Rows L2 HT
section
variable {K : PySem.W.Frag} {H H1 : Hp} {σ : L2.St}
theorem va_same {v : V} {o : Option (List (Option Int))} (e : Same H H1) (h : Va K H v o) : Va K H1 v o := by
  cases h with
  | tup h hl he => exact .tup (same_tup e h) hl fun j x o hx ho => (he j x o hx ho).same e
  | oth h k => exact .oth (tyx_same e h) k
/-- te gives a value of which P holds, and leaves all that was there -/
def EvS (te : TE) (σ : L2.St) (H : Hp) (P : V → Hp → Prop) : Prop := ∀ H1, Same H H1 → ∀ Q : VK, (∀ v H2, Same H1 H2 → P v H2 → Q v H2) → te σ H1 Q
abbrev IsE (K : PySem.W.Frag) (o : Option Int) : V → Hp → Prop := fun v H => En K H v o
abbrev IsT (K : PySem.W.Frag) (os : List (Option Int)) : V → Hp → Prop := fun v H => Va K H v (some os)
theorem evs_c {v : V} {P : V → Hp → Prop} (h : ∀ H1, Same H H1 → P v H1) : EvS (tC v) σ H P := fun H1 e Q q => q v H1 (Same.refl _) (h H1 e)
theorem evs_var {i : Nat} {v : V} {P : V → Hp → Prop} (hv : σ[i]? = some (some v)) (h : ∀ H1, Same H H1 → P v H1) : EvS (tVar i) σ H P := fun H1 e Q q => ⟨v, hv, q v H1 (Same.refl _) (h H1 e)⟩
theorem en_tup0 : IsT K [] (.ref a) (upd H a (.tup [])) := .tup (tup_of upd_same) rfl fun j x o hx _ => nomatch hx
theorem evs_t0 : EvS (tTup tNil) σ H (IsT K []) := fun H1 e Q q => ⟨Nat.zero_le _, fun p hp => q _ _ (new_same hp) (.tup (tup_of upd_same) rfl fun j x o hx _ => nomatch hx)⟩
theorem evs_t1 {te : TE} {o : Option Int} (h : EvS te σ H (IsE K o)) : EvS (tTup (tCons te tNil)) σ H (IsT K [o]) := fun H1 e Q q => h H1 e _ fun v H2 e2 hv =>
  ⟨by show 1 ≤ sizeLine; decide, fun p hp => q _ _ (Same.trans e2 (new_same hp)) (.tup (tup_of upd_same) rfl fun j x u hx hu => by
    cases j with
    | zero => cases hx; cases hu; exact hv.same (new_same hp)
    | succ j => cases hx)⟩
theorem evs_t2 {te tf : TE} {o u : Option Int} (h : EvS te σ H (IsE K o)) (h2 : EvS tf σ H (IsE K u)) : EvS (tTup (tCons te (tCons tf tNil))) σ H (IsT K [o, u]) := fun H1 e Q q => h H1 e _ fun v H2 e2 hv => h2 H2 (Same.trans e e2) _ fun v2 H3 e3 hv2 =>
  ⟨by show 2 ≤ sizeLine; decide, fun p hp => q _ _ (Same.trans (Same.trans e2 e3) (new_same hp)) (.tup (tup_of upd_same) rfl fun j x y hx hy => by
    cases j with
    | zero => cases hx; cases hy; exact (hv.same e3).same (new_same hp)
    | succ j =>
      cases j with
      | zero => cases hx; cases hy; exact hv2.same (new_same hp)
      | succ j => cases hx)⟩
theorem evs_cat {ta tb : TE} {os ps : List (Option Int)} (h1 : EvS ta σ H (IsT K os)) (h2 : EvS tb σ H (IsT K ps)) (hz : os.length + ps.length ≤ 100000) : EvS (tOp (rCatA K) ta tb) σ H (IsT K (os ++ ps)) := fun H1 e Q q =>
  h1 H1 e _ fun v H2 e2 hv => h2 H2 (Same.trans e e2) _ fun v2 H3 e3 hv2 => by
    have hv := va_same e3 hv
    cases hv with
    | @tup a xs _ h hl he =>
      cases hv2 with
      | @tup b ys _ h' hl' he' =>
        refine ⟨a, b, xs, ys, rfl, rfl, h, h', Nat.le_trans (by omega) (by decide : 100000 ≤ sizeLine), fun ex => q _ _ (Same.trans e2 e3) ?_, fun _ ey => q _ _ (Same.trans e2 e3) ?_, fun _ _ p hp => q _ _ (Same.trans (Same.trans e2 e3) (new_same hp)) ?_⟩
        · subst ex
          have : os = [] := List.eq_nil_of_length_eq_zero hl.symm
          subst this
          exact .tup h' hl' he'
        · subst ey
          have : ps = [] := List.eq_nil_of_length_eq_zero hl'.symm
          subst this
          rw [List.append_nil]
          exact .tup h hl he
        · refine .tup (tup_of upd_same) (by rw [List.length_append, List.length_append, hl, hl']) fun j x o hx ho => ?_
          refine En.same (new_same hp) ?_
          by_cases hj : j < xs.length
          · rw [List.getElem?_append_left hj] at hx
            rw [List.getElem?_append_left (by omega)] at ho
            exact he j x o hx ho
          · rw [List.getElem?_append_right (by omega)] at hx
            rw [List.getElem?_append_right (by omega), ← hl] at ho
            exact he' _ x o hx ho
theorem evs_ints {te : TE} {a : Addr} {ns : List Int} (h : EvS te σ H fun v H => ∃ a, v = .ref a ∧ SqT K H a (ns.map V.int)) : EvS te σ H (IsT K (ns.map some)) := fun H1 e Q q => h H1 e _ fun v H2 e2 ⟨a, ev, ha⟩ => q v H2 e2 (by rw [ev]; exact va_ints ha)
abbrev IsI (K : PySem.W.Frag) (ns : List Int) : V → Hp → Prop := fun v H => ∃ a, v = .ref a ∧ SqT K H a (ns.map V.int)
theorem isI {te : TE} {ns : List Int} (h : EvS te σ H (IsI K ns)) : EvS te σ H (IsT K (ns.map some)) := fun H1 e Q q => h H1 e _ fun v H2 e2 ⟨a, ev, ha⟩ => q v H2 e2 (by rw [ev]; exact va_ints ha)
theorem evs_to {i j : Nat} {a : Addr} {k : Nat} {ns : List Int} (hi : σ[i]? = some (some (.ref a))) (hj : σ[j]? = some (some (.int (k : Int)))) (h : SqT K H a (ns.map V.int)) : EvS (tSl (rSlA K) (tVar i) tNoPart (tPart (tVar j))) σ H (IsI K (ns.take k)) := fun H1 e Q q =>
  ⟨.ref a, hi, .int (k : Int), hj, (k : Int), rfl, sl_ints (same_tup e h) fun H2 p e2 hp => q _ _ e2 ⟨p, rfl, by rw [cutI_to] at hp; exact hp⟩⟩
theorem nopart {Q : Option Int → Hp → Prop} (h : Q none H) : tNoPart σ H Q := h
theorem evs_from {i j : Nat} {a : Addr} {k : Nat} {ns : List Int} (hi : σ[i]? = some (some (.ref a))) (hj : σ[j]? = some (some (.int (k : Int)))) (h : SqT K H a (ns.map V.int)) : EvS (tSl (rSlA K) (tVar i) (tPart (tVar j)) tNoPart) σ H (IsI K (ns.drop k)) := fun H1 e Q q =>
  ⟨.ref a, hi, .int (k : Int), hj, (k : Int), rfl, nopart (sl_ints (same_tup e h) fun H2 p e2 hp => q _ _ e2 ⟨p, rfl, by rw [cutI_from] at hp; exact hp⟩)⟩
/-- what is judged, and the word on it -/
def Itm (K : PySem.W.Frag) (J : Option (List (Option Int)) → Bool) : V → Hp → Prop := fun x H => ∃ (t : Addr) (v : V) (b : Bool) (o : Option (List (Option Int))), x = .ref t ∧ SqT K H t [v, .bl b] ∧ Va K H v o ∧ J o = b
theorem itm_same {J : Option (List (Option Int)) → Bool} {x : V} (e : Same H H1) (h : Itm K J x H) : Itm K J x H1 := by
  obtain ⟨t, v, b, o, e1, e2, e3, e4⟩ := h
  exact ⟨t, v, b, o, e1, same_tup e e2, va_same e e3, e4⟩
theorem evs_itm {J : Option (List (Option Int)) → Bool} {te : TE} {b : Bool} (h : EvS te σ H fun v H => ∃ o, Va K H v o ∧ J o = b) : EvS (tTup (tCons te (tCons (tC (.bl b)) tNil))) σ H (Itm K J) := fun H1 e Q q => h H1 e _ fun v H2 e2 ⟨o, hv, hj⟩ =>
  ⟨by show 2 ≤ sizeLine; decide, fun p hp => q _ _ (Same.trans e2 (new_same hp)) ⟨p, v, b, o, rfl, tup_of upd_same, va_same (new_same hp) hv, hj⟩⟩
theorem evs_of {te : TE} {P P' : V → Hp → Prop} (h : EvS te σ H P) (f : ∀ v H, P v H → P' v H) : EvS te σ H P' := fun H1 e Q q => h H1 e Q fun v H2 e2 hv => q v H2 e2 (f v H2 hv)
theorem itm_t {J : Option (List (Option Int)) → Bool} {te : TE} {b : Bool} {os : List (Option Int)} (h : EvS te σ H (IsT K os)) (hj : J (some os) = b) : EvS (tTup (tCons te (tCons (tC (.bl b)) tNil))) σ H (Itm K J) := evs_itm (evs_of h fun v H hv => ⟨_, hv, hj⟩)
theorem itm_o {J : Option (List (Option Int)) → Bool} {te : TE} {b : Bool} (h : EvS te σ H fun v H => Va K H v none) (hj : J none = b) : EvS (tTup (tCons te (tCons (tC (.bl b)) tNil))) σ H (Itm K J) := evs_itm (evs_of h fun v H hv => ⟨_, hv, hj⟩)
/-- the items of a display -/
def EvA (ta : TA) (σ : L2.St) (H : Hp) (n : Nat) (P : V → Hp → Prop) : Prop := ∀ H1, Same H H1 → ∀ Q : List V → Hp → Prop, (∀ vs H2, Same H1 H2 → vs.length = n → (∀ v ∈ vs, P v H2) → Q vs H2) → ta σ H1 Q
theorem eva_nil {P : V → Hp → Prop} : EvA tNil σ H 0 P := fun H1 e Q q => q [] H1 (Same.refl _) rfl fun _ h => nomatch h
theorem eva_cons {te : TE} {ta : TA} {n : Nat} {P : V → Hp → Prop} (pp : ∀ v H H1, Same H H1 → P v H → P v H1) (h : EvS te σ H P) (h2 : EvA ta σ H n P) : EvA (tCons te ta) σ H (n + 1) P := fun H1 e Q q => h H1 e _ fun v H2 e2 hv => h2 H2 (Same.trans e e2) _ fun vs H3 e3 hn hvs =>
  q _ _ (Same.trans e2 e3) (by rw [List.length_cons, hn]) fun u hu => by
    rcases List.mem_cons.mp hu with hu | hu
    · rw [hu]; exact pp _ _ _ e3 hv
    · exact hvs u hu
end
end N0

/-! rotations: which is least -/
namespace Rg
def Lt (a : Nat → Int) (s t : Nat) : Prop := ∃ j, (∀ i, i < j → a (s + i) = a (t + i)) ∧ a (s + j) < a (t + j)
variable {a : Nat → Int}
theorem Lt.irr {s : Nat} : ¬ Lt a s s := fun ⟨j, _, h⟩ => Int.lt_irrefl _ h
theorem Lt.asy {s t : Nat} (h : Lt a s t) : ¬ Lt a t s := fun ⟨j, h1, h2⟩ => by
  obtain ⟨i, g1, g2⟩ := h
  rcases Nat.lt_trichotomy i j with q | q | q
  · have := h1 i q; omega
  · subst q; omega
  · have := g1 j q; omega
theorem Lt.ntr {s t u : Nat} (h1 : ¬ Lt a s t) (h2 : ¬ Lt a t u) : ¬ Lt a s u := fun ⟨j, g1, g2⟩ => by
  have key : ∀ k, k ≤ j → ∀ i, i < k → a (t + i) = a (s + i) := by
    intro k
    induction k with
    | zero => exact fun _ i hi => absurd hi (Nat.not_lt_zero _)
    | succ k ih =>
      intro hk i hi
      have ih := ih (by omega)
      by_cases q : i < k
      · exact ih i q
      · have : i = k := by omega
        subst this
        have e1 : ¬ a (s + i) < a (t + i) := fun q => h1 ⟨i, fun m hm => (ih m hm).symm, q⟩
        have e2 : ¬ a (t + i) < a (u + i) := fun q => h2 ⟨i, fun m hm => (ih m hm).trans (g1 m (by omega)), q⟩
        have e3 := g1 i (by omega)
        omega
  have ih := key j (Nat.le_refl _)
  have e1 : ¬ a (s + j) < a (t + j) := fun q => h1 ⟨j, fun m hm => (ih m hm).symm, q⟩
  exact h2 ⟨j, fun m hm => (ih m hm).trans (g1 m hm), by omega⟩
theorem exists_min (a : Nat → Int) : ∀ n, 0 < n → ∃ m, m < n ∧ ∀ t, t < n → ¬ Lt a t m
  | 0, h => absurd h (Nat.lt_irrefl _)
  | 1, _ => ⟨0, by decide, fun t ht => (show t = 0 by omega) ▸ Lt.irr⟩
  | n + 2, _ => by
    obtain ⟨m, hm, h⟩ := exists_min a (n + 1) (by omega)
    by_cases q : Lt a (n + 1) m
    · refine ⟨n + 1, by omega, fun t ht => ?_⟩
      by_cases e : t = n + 1
      · subst e; exact Lt.irr
      · exact Lt.ntr (h t (by omega)) q.asy
    · refine ⟨m, by omega, fun t ht => ?_⟩
      by_cases e : t = n + 1
      · subst e; exact q
      · exact h t (by omega)
def Per (a : Nat → Int) (n : Nat) : Prop := ∀ i, a (i + n) = a i
theorem Per.mul {n : Nat} (h : Per a n) : ∀ k i, a (i + k * n) = a i
  | 0, i => by rw [Nat.zero_mul, Nat.add_zero]
  | k + 1, i => by rw [Nat.succ_mul, ← Nat.add_assoc, h, h.mul k]
theorem Per.mod {n : Nat} (h : Per a n) (t i : Nat) : a (t % n + i) = a (t + i) := by
  have e : t + i = t % n + i + (t / n) * n := by have := Nat.mod_add_div t n; rw [Nat.mul_comm] at this; omega
  rw [e, h.mul]
def Least (a : Nat → Int) (s : Nat) : Prop := ∀ t, ¬ Lt a t s
theorem least_min {n : Nat} (p : Per a n) (hn : 0 < n) {s : Nat} (h : ∀ t, t < n → ¬ Lt a t s) : Least a s := fun t ⟨j, h1, h2⟩ => h (t % n) (Nat.mod_lt _ hn) ⟨j, fun i hi => by rw [p.mod]; exact h1 i hi, by rw [p.mod]; exact h2⟩
theorem least_eq {s t : Nat} (hs : Least a s) (ht : Least a t) : ∀ i, a (s + i) = a (t + i) := fun i => by
  have key : ∀ k, ∀ i, i < k → a (s + i) = a (t + i) := by
    intro k
    induction k with
    | zero => exact fun i hi => absurd hi (Nat.not_lt_zero _)
    | succ k ih =>
      intro i hi
      by_cases q : i < k
      · exact ih i q
      · have : i = k := by omega
        subst this
        have e1 : ¬ a (s + i) < a (t + i) := fun q => ht s ⟨i, ih, q⟩
        have e2 : ¬ a (t + i) < a (s + i) := fun q => hs t ⟨i, fun m hm => (ih m hm).symm, q⟩
        omega
  exact key (i + 1) i (by omega)
theorem least_of_eq {s t : Nat} (hs : Least a s) (h : ∀ i, a (s + i) = a (t + i)) : Least a t := fun u ⟨j, h1, h2⟩ => hs u ⟨j, fun i hi => (h1 i hi).trans (h i).symm, by rw [h]; exact h2⟩
/-- two places that compete -/
structure Inv (a : Nat → Int) (f s k : Nat) : Prop where
  ne : f ≠ s
  eq : ∀ i, i < k → a (f + i) = a (s + i)
  bad : ∀ t, t < max f s → t ≠ f → t ≠ s → ∃ u, Lt a u t
theorem Inv.symm {f s k : Nat} (h : Inv a f s k) : Inv a s f k := ⟨h.ne.symm, fun i hi => (h.eq i hi).symm, fun t ht h1 h2 => h.bad t (by omega) h2 h1⟩
theorem Inv.start : Inv a 0 1 0 := ⟨by decide, fun i hi => absurd hi (Nat.not_lt_zero _), fun t ht h1 h2 => by omega⟩
theorem Inv.grow {f s k : Nat} (h : Inv a f s k) (e : a (f + k) = a (s + k)) : Inv a f s (k + 1) := ⟨h.ne, fun i hi => by
  by_cases q : i < k
  · exact h.eq i q
  · have : i = k := by omega
    subst this; exact e, h.bad⟩
theorem Inv.lost {f s k : Nat} (h : Inv a f s k) (e : a (s + k) < a (f + k)) (t : Nat) (h1 : f ≤ t) (h2 : t ≤ f + k) : ∃ u, Lt a u t := by
  refine ⟨s + (t - f), k - (t - f), fun i hi => ?_, ?_⟩
  · have e1 : s + (t - f) + i = s + ((t - f) + i) := by omega
    have e2 : t + i = f + ((t - f) + i) := by omega
    rw [e1, e2]
    exact (h.eq _ (by omega)).symm
  · have e1 : s + (t - f) + (k - (t - f)) = s + k := by omega
    have e2 : t + (k - (t - f)) = f + k := by omega
    rw [e1, e2]
    exact e
theorem Inv.on {f s k : Nat} (h : Inv a f s k) (e : a (s + k) < a (f + k)) (hne : f + k + 1 ≠ s) : Inv a (f + k + 1) s 0 := by
  refine ⟨hne, fun i hi => absurd hi (Nat.not_lt_zero _), fun t ht h1 h2 => ?_⟩
  by_cases q : f ≤ t ∧ t ≤ f + k
  · exact h.lost e t q.1 q.2
  · exact h.bad t (by omega) (by omega) h2
theorem Inv.on2 {f s k : Nat} (h : Inv a f s k) (e : a (s + k) < a (f + k)) (hne : f + k + 1 = s) : Inv a (f + k + 1) (s + 1) 0 := by
  refine ⟨by omega, fun i hi => absurd hi (Nat.not_lt_zero _), fun t ht h1 h2 => ?_⟩
  by_cases q : f ≤ t ∧ t ≤ f + k
  · exact h.lost e t q.1 q.2
  · exact h.bad t (by omega) (by omega) (by omega)
theorem Inv.done {n f s k : Nat} (p : Per a n) (hn : 0 < n) (h : Inv a f s k) (hlt : f < s) (hz : ¬ (s < n ∧ k < n)) : f < n ∧ Least a f := by
  obtain ⟨m, hm, hmin⟩ := exists_min a n hn
  have lm := least_min p hn hmin
  have nb : ∀ t, t < s → t ≠ f → ∃ u, Lt a u t := fun t ht h1 => h.bad t (by omega) h1 (by omega)
  by_cases q : m < s
  · by_cases e : m = f
    · subst e; exact ⟨hm, lm⟩
    · obtain ⟨u, hu⟩ := nb m q e
      exact absurd hu (lm u)
  · have hk : ¬ k < n := fun z => hz ⟨by omega, z⟩
    have per : ∀ i, a (f + i) = a (s + i) := fun i => by
      have e1 : a (f + i) = a (f + i % n) := by
        have := p.mul (i / n) (f + i % n)
        have e : f + i % n + i / n * n = f + i := by have := Nat.mod_add_div i n; rw [Nat.mul_comm] at this; omega
        rw [e] at this; exact this
      have e2 : a (s + i) = a (s + i % n) := by
        have := p.mul (i / n) (s + i % n)
        have e : s + i % n + i / n * n = s + i := by have := Nat.mod_add_div i n; rw [Nat.mul_comm] at this; omega
        rw [e] at this; exact this
      have := Nat.mod_lt i hn
      rw [e1, e2, h.eq (i % n) (by omega)]
    let d := s - f
    let b : Nat → Int := fun i => a (f + i)
    have pb : Per b d := fun i => by
      show a (f + (i + (s - f))) = a (f + i)
      have e : f + (i + (s - f)) = s + i := by omega
      rw [e, per]
    have hd : 0 < d := by show 0 < s - f; omega
    have eqs : ∀ i, a (f + (m - f) % d + i) = a (m + i) := fun i => by
      have := pb.mod (m - f) i
      show _
      have e1 : a (f + ((m - f) % d + i)) = a (f + ((m - f) + i)) := this
      have e2 : f + ((m - f) + i) = m + i := by omega
      have e3 : f + (m - f) % d + i = f + ((m - f) % d + i) := by omega
      rw [e3, e1, e2]
    have hmod := Nat.mod_lt (m - f) hd
    by_cases e : (m - f) % d = 0
    · rw [e, Nat.add_zero] at eqs
      exact ⟨by omega, least_of_eq lm fun i => (eqs i).symm⟩
    · obtain ⟨u, hu⟩ := nb (f + (m - f) % d) (by show _ < s; have : d = s - f := rfl; omega) (by omega)
      exact absurd hu (least_of_eq lm (fun i => (eqs i).symm) u)
theorem Inv.fin {n f s k : Nat} (p : Per a n) (hn : 0 < n) (h : Inv a f s k) (hz : ¬ (f < n ∧ s < n ∧ k < n)) : min f s < n ∧ Least a (min f s) := by
  rcases Nat.lt_or_ge f s with q | q
  · have := h.done p hn q (by omega)
    rw [Nat.min_eq_left (by omega)]; exact this
  · have hne := h.ne
    have := h.symm.done p hn (by omega) (by omega)
    rw [Nat.min_eq_right (by omega)]; exact this
/-! a list, round and round -/
def sq (l : List Int) (i : Nat) : Int := l.getD (i % l.length) 0
def rot (l : List Int) (k : Nat) : List Int := l.drop k ++ l.take k
theorem per_sq (l : List Int) : Per (sq l) l.length := fun i => by unfold sq; rw [Nat.add_mod_right]
theorem rot_len (l : List Int) (k : Nat) : (rot l k).length = l.length := by
  unfold rot; rw [List.length_append, List.length_drop, List.length_take]; omega
theorem rot_at {l : List Int} {k j : Nat} (hk : k ≤ l.length) (hj : j < l.length) : (rot l k).getD j 0 = sq l (k + j) := by
  unfold rot sq
  rw [List.getD_eq_getElem?_getD, List.getD_eq_getElem?_getD]
  by_cases q : j < l.length - k
  · rw [List.getElem?_append_left (by rw [List.length_drop]; exact q), List.getElem?_drop, Nat.mod_eq_of_lt (by omega)]
  · rw [List.getElem?_append_right (by rw [List.length_drop]; omega), List.length_drop, List.getElem?_take, if_pos (by omega)]
    have e : k + j = j - (l.length - k) + l.length := by omega
    rw [e, Nat.add_mod_right, Nat.mod_eq_of_lt (by omega)]
theorem list_ext {l m : List Int} (hl : l.length = m.length) (h : ∀ j, j < l.length → l.getD j 0 = m.getD j 0) : l = m := by
  refine List.ext_getElem? fun j => ?_
  by_cases q : j < l.length
  · rw [N0.getD_of q, N0.getD_of (hl ▸ q), h j q]
  · rw [List.getElem?_eq_none (by omega), List.getElem?_eq_none (by omega)]
theorem rot_sq {l : List Int} {k : Nat} (hk : k ≤ l.length) (i : Nat) : sq (rot l k) i = sq l (k + i) := by
  by_cases hn : l.length = 0
  · have : l = [] := List.eq_nil_of_length_eq_zero hn
    subst this
    unfold rot sq; simp
  · have : sq (rot l k) i = (rot l k).getD (i % l.length) 0 := by show (rot l k).getD (i % (rot l k).length) 0 = _; rw [rot_len]
    rw [this, rot_at hk (Nat.mod_lt _ (by omega))]
    have e := (per_sq l).mul (i / l.length) (k + i % l.length)
    have e1 : k + i % l.length + i / l.length * l.length = k + i := by have := Nat.mod_add_div i l.length; rw [Nat.mul_comm] at this; omega
    rw [e1] at e
    exact e.symm
theorem sq_self {l : List Int} {j : Nat} (hj : j < l.length) : sq l j = l.getD j 0 := by unfold sq; rw [Nat.mod_eq_of_lt hj]
/-- a row is the ring of another one -/
def Ring (m r : List Int) : Prop := r.length = m.length ∧ ∃ s, Least (sq m) s ∧ ∀ i, sq r i = sq m (s + i)
theorem ring_uniq {m r q : List Int} (h1 : Ring m r) (h2 : Ring m q) : r = q := by
  obtain ⟨l1, s, a1, b1⟩ := h1
  obtain ⟨l2, t, a2, b2⟩ := h2
  refine list_ext (l1.trans l2.symm) fun j hj => ?_
  have := least_eq a1 a2 j
  rw [← b1, ← b2, sq_self hj, sq_self (by omega)] at this
  exact this
theorem ring_rot {m : List Int} {k : Nat} (hk : k ≤ m.length) (h : Least (sq m) k) : Ring m (rot m k) := ⟨rot_len m k, k, h, fun i => rot_sq hk i⟩
/-- m is u turned -/
def Tn (u m : List Int) : Prop := m.length = u.length ∧ ∃ k, ∀ i, sq m i = sq u (k + i)
theorem tn_rot {m : List Int} {k : Nat} (hk : k ≤ m.length) : Tn m (rot m k) := ⟨rot_len m k, k, fun i => rot_sq hk i⟩
theorem Tn.refl (m : List Int) : Tn m m := ⟨rfl, 0, fun i => by rw [Nat.zero_add]⟩
theorem Tn.symm {u m : List Int} (h : Tn u m) : Tn m u := by
  obtain ⟨h1, k, h2⟩ := h
  by_cases hn : u.length = 0
  · have e1 : u = [] := List.eq_nil_of_length_eq_zero hn
    have e2 : m = [] := List.eq_nil_of_length_eq_zero (by omega)
    subst e1 e2
    exact Tn.refl _
  · refine ⟨h1.symm, u.length - k % u.length, fun i => ?_⟩
    rw [h2]
    have hm := Nat.mod_lt k (Nat.pos_of_ne_zero hn)
    have hd := Nat.mod_add_div k u.length
    rw [Nat.mul_comm] at hd
    have e : k + (u.length - k % u.length + i) = i + (k / u.length + 1) * u.length := by rw [Nat.add_mul, Nat.one_mul]; omega
    rw [e, (per_sq u).mul]
theorem Tn.trans {u m v : List Int} (h : Tn u m) (g : Tn m v) : Tn u v := by
  obtain ⟨h1, k, h2⟩ := h
  obtain ⟨g1, l, g2⟩ := g
  exact ⟨g1.trans h1, k + l, fun i => by rw [g2, h2, Nat.add_assoc]⟩
theorem Ring.tn {m r : List Int} (h : Ring m r) : Tn m r := ⟨h.1, h.2.choose, h.2.choose_spec.2⟩
theorem ring_tn {u m r : List Int} (h : Tn u m) (g : Ring u r) : Ring m r := by
  obtain ⟨g1, s, g2, g3⟩ := g
  obtain ⟨h1, k, h2⟩ := h.symm
  refine ⟨g1.trans h1, k + s, fun t ht => ?_, fun i => by rw [g3, h2, Nat.add_assoc]⟩
  obtain ⟨_, l, h4⟩ := h
  obtain ⟨j, e1, e2⟩ := ht
  rw [Nat.add_assoc] at e2
  refine g2 (l + t) ⟨j, fun i hi => ?_, ?_⟩
  · have := e1 i hi
    rw [h4, Nat.add_assoc k, ← h2, ← Nat.add_assoc] at this
    exact this
  · rw [h4, ← h2, ← Nat.add_assoc] at e2
    exact e2
theorem ring_ex (m : List Int) : ∃ r, Ring m r := by
  by_cases hn : m.length = 0
  · have e1 : m = [] := List.eq_nil_of_length_eq_zero hn
    subst e1
    exact ⟨[], rfl, 0, fun t ⟨j, _, h⟩ => by unfold sq at h; simp at h, fun i => by rw [Nat.zero_add]⟩
  · obtain ⟨k, hk, h⟩ := exists_min (sq m) m.length (by omega)
    exact ⟨rot m k, ring_rot (by omega) (least_min (per_sq m) (by omega) h)⟩
theorem tn_of_ring {u m r : List Int} (h : Ring u r) (g : Ring m r) : Tn u m := h.tn.trans g.tn.symm
theorem ring_nil : Ring [] [] := ⟨rfl, 0, fun t ⟨j, _, h⟩ => by unfold sq at h; simp at h, fun i => by rw [Nat.zero_add]⟩
theorem Ring.self {m r : List Int} (h : Ring m r) : Ring r r := ring_tn h.tn h
/-! by the order of tuples -/
theorem lex_of : ∀ (x y : List Int) (j : Nat), x.length = y.length → j < x.length → (∀ i, i < j → x.getD i 0 = y.getD i 0) → x.getD j 0 < y.getD j 0 → HT.lexLt x y = true
  | [], _, j, _, h, _, _ => absurd h (Nat.not_lt_zero _)
  | _ :: _, [], j, h, _, _, _ => nomatch h
  | x :: xs, y :: ys, 0, _, _, _, h2 => by
    have h2 : x < y := h2
    rw [HT.lexLt_cons, if_neg (by omega)]
    exact decide_eq_true h2
  | x :: xs, y :: ys, j + 1, hl, hj, h1, h2 => by
    have h0 : x = y := h1 0 (by omega)
    rw [HT.lexLt_cons, if_pos h0]
    exact lex_of xs ys j (by simpa using hl) (by simpa using hj) (fun i hi => h1 (i + 1) (by omega)) h2
theorem least_lex {l : List Int} {k : Nat} (hk : k < l.length) (h : ∀ t, t < l.length → HT.lexLt (rot l t) (rot l k) = false) : Least (sq l) k := by
  refine least_min (per_sq l) (by omega) fun t ht ⟨j, h1, h2⟩ => ?_
  have hj : j < l.length := by
    refine Decidable.byContradiction fun q => ?_
    have e := h1 (j % l.length) (by have := Nat.mod_lt j (show 0 < l.length by omega); omega)
    have p := fun t => (per_sq l).mul (j / l.length) (t + j % l.length)
    have e1 : ∀ t, t + j % l.length + j / l.length * l.length = t + j := fun t => by have := Nat.mod_add_div j l.length; rw [Nat.mul_comm] at this; omega
    have p1 := p t
    have p2 := p k
    rw [e1] at p1 p2
    omega
  have := lex_of (rot l t) (rot l k) j (by rw [rot_len, rot_len]) (by rw [rot_len]; exact hj) (fun i hi => by rw [rot_at (by omega) (by omega), rot_at (by omega) (by omega)]; exact h1 i hi) (by rw [rot_at (by omega) (by omega), rot_at (by omega) (by omega)]; exact h2)
  rw [h t ht] at this
  cases this
end Rg

/-! cores and rings of words -/
namespace Rg
open Fr
def Cr (m : List Int) : Prop := m ≠ [] ∧ ∀ x y, m.getLast? = some x → m.head? = some y → x ≠ -y
def Spl (ns c m : List Int) : Prop := ns = c ++ m ++ opp c ∧ (ns = [] → c = [] ∧ m = []) ∧ (ns ≠ [] → Cr m)
theorem snoc_of {m : List Int} (h : m ≠ []) : ∃ t q, m = t ++ [q] := ⟨m.dropLast, m.getLast h, (List.dropLast_concat_getLast h).symm⟩
theorem nf_mid {a b c : List Int} (h : Nf (a ++ b ++ c)) : Nf b := nf_back (nf_front h)
theorem nf_cons {x : Int} {w : List Int} (hw : Nf w) (h : ∀ y, w.head? = some y → x ≠ -y) : Nf (x :: w) := by
  cases w with
  | nil => exact True.intro
  | cons y t => exact ⟨h y rfl, hw⟩
theorem nf_end {x : Int} {w : List Int} (hw : Nf w) (h : ∀ y, w.getLast? = some y → y ≠ -x) : Nf (w ++ [x]) := nf_join hw True.intro fun u v hu hv => by cases hv; exact h u hu
theorem last_snoc (t : List Int) (q : Int) : (t ++ [q]).getLast? = some q := by rw [List.getLast?_append]; rfl
theorem nf_jn {a b : List Int} {x y : Int} (hab : Nf (a ++ b)) (hx : a.getLast? = some x) (hy : b.head? = some y) : x ≠ -y := by
  have hne : a ≠ [] := fun q => by rw [q] at hx; cases hx
  obtain ⟨t, q, rfl⟩ := snoc_of hne
  rw [last_snoc] at hx
  cases hx
  cases b with
  | nil => cases hy
  | cons z b' =>
    cases hy
    rw [List.append_assoc] at hab
    exact (nf_back hab).1
theorem turn1 {w c m : List Int} (hw : Nf w) (s : w = c ++ m ++ opp c) (h : Cr m) (x : Int) : ∃ c' m', red ([x] ++ w ++ [-x]) = c' ++ m' ++ opp c' ∧ Cr m' ∧ Tn m m' := by
  have long : (∀ y, w.head? = some y → x ≠ -y) → (∀ y, w.getLast? = some y → y ≠ x) → ∃ c' m', red ([x] ++ w ++ [-x]) = c' ++ m' ++ opp c' ∧ Cr m' ∧ Tn m m' := fun h1 h2 => by
    have hne : w ≠ [] := fun q => by
      rw [q] at s
      have := congrArg List.length s
      simp only [List.length_append, List.length_nil] at this
      exact h.1 (List.eq_nil_of_length_eq_zero (by omega))
    refine ⟨x :: c, m, ?_, h, Tn.refl m⟩
    rw [red_id, opp_cons, s]
    · simp [List.append_assoc]
    · refine nf_end (w := x :: w) (nf_cons hw h1) fun y hy => ?_
      have : (x :: w).getLast? = w.getLast? := by
        cases w with
        | nil => exact absurd rfl hne
        | cons a b => rw [List.getLast?_cons_cons]
      rw [this] at hy
      have := h2 y hy
      omega
  cases c with
  | cons y c =>
    rw [opp_cons] at s
    by_cases q : x = -y
    · refine ⟨c, m, ?_, h, Tn.refl m⟩
      have e : [x] ++ w ++ [-x] = [] ++ x :: y :: ((c ++ m ++ opp c) ++ [-y, -x]) := by rw [s]; simp [List.append_assoc]
      rw [e, red_strike _ _ _ _ q]
      have e2 : [] ++ ((c ++ m ++ opp c) ++ [-y, -x]) = (c ++ m ++ opp c) ++ (-y) :: (-x) :: [] := rfl
      rw [e2, red_strike _ _ _ _ (by omega), List.append_nil]
      refine red_id ?_
      have : w = [y] ++ (c ++ m ++ opp c) ++ [-y] := by rw [s]; simp [List.append_assoc]
      rw [this] at hw
      exact nf_mid hw
    · refine long (fun z hz => ?_) fun z hz => ?_
      · rw [s] at hz; cases hz; exact q
      · rw [s, ← List.append_assoc, last_snoc] at hz; cases hz; omega
  | nil =>
    have s : w = m := by rw [s]; simp [opp]
    subst s
    obtain ⟨p, t, rfl⟩ : ∃ p t, w = p :: t := by
      cases w with
      | nil => exact absurd rfl h.1
      | cons a b => exact ⟨a, b, rfl⟩
    by_cases q : x = -p
    · refine ⟨[], t ++ [p], ?_, ⟨by simp, fun u v hu hv => ?_⟩, tn_rot (m := p :: t) (k := 1) (by simp)⟩
      · have e : [x] ++ (p :: t) ++ [-x] = [] ++ x :: p :: (t ++ [-x]) := rfl
        rw [e, red_strike _ _ _ _ q, List.nil_append, show -x = p by omega]
        have : Nf (t ++ [p]) := by
          refine nf_end hw.tail fun y hy => ?_
          refine h.2 y p ?_ rfl
          cases t with
          | nil => cases hy
          | cons a b => rw [List.getLast?_cons_cons]; exact hy
        rw [red_id this]
        simp [opp]
      · rw [last_snoc] at hu
        cases hu
        cases t with
        | nil => cases hv; exact h.2 p p rfl rfl
        | cons a b => cases hv; exact hw.1
    · obtain ⟨t2, z, e0⟩ := snoc_of h.1
      by_cases q2 : z = x
      · subst q2
        rw [e0] at hw h ⊢
        refine ⟨[], z :: t2, ?_, ⟨by simp, fun u v hu hv => ?_⟩, ?_⟩
        · have e : [z] ++ (t2 ++ [z]) ++ [-z] = (z :: t2) ++ z :: (-z) :: [] := by simp [List.append_assoc]
          rw [e, red_strike _ _ _ _ (by omega), List.append_nil]
          have : Nf (z :: t2) := nf_cons (nf_front hw) fun y hy => by
            refine h.2 z y (last_snoc _ _) ?_
            cases t2 with
            | nil => cases hy
            | cons a b => exact hy
          rw [red_id this]
          simp [opp]
        · cases hv
          cases t2 with
          | nil => cases hu; exact h.2 z z rfl rfl
          | cons a b =>
            rw [List.getLast?_cons_cons] at hu
            exact nf_jn hw hu rfl
        · have := tn_rot (m := t2 ++ [z]) (k := t2.length) (by simp)
          unfold rot at this
          rw [List.drop_left, List.take_left] at this
          exact this
      · refine long (fun y hy => ?_) fun y hy => ?_
        · cases hy; exact q
        · rw [e0, last_snoc] at hy; cases hy; exact q2
theorem spl_nil : Spl [] [] [] := ⟨rfl, fun _ => ⟨rfl, rfl⟩, fun q => absurd rfl q⟩
theorem spl_of {w c m : List Int} (s : w = c ++ m ++ opp c) (h : Cr m) : Spl w c m := ⟨s, fun q => by
  rw [q] at s
  have := congrArg List.length s
  simp only [List.length_append, List.length_nil] at this
  exact absurd (List.eq_nil_of_length_eq_zero (by omega)) h.1, fun _ => h⟩
theorem turn (w c m : List Int) (hw : Nf w) (s : Spl w c m) : ∀ by_ : List Int, ∃ c' m', Spl (red (by_ ++ w ++ opp by_)) c' m' ∧ Tn m m'
  | b => by
    by_cases hn : w = []
    · obtain ⟨rfl, rfl⟩ := s.2.1 hn
      subst hn
      rw [List.append_nil, red_opp_self]
      exact ⟨[], [], spl_nil, Tn.refl _⟩
    · suffices ∃ c' m', red (b ++ w ++ opp b) = c' ++ m' ++ opp c' ∧ Cr m' ∧ Tn m m' by
        obtain ⟨c', m', e1, e2, e3⟩ := this
        exact ⟨c', m', spl_of e1 e2, e3⟩
      induction b with
      | nil => exact ⟨c, m, by rw [show ([] : List Int) ++ w ++ opp [] = w by simp [opp], red_id hw]; exact s.1, s.2.2 hn, Tn.refl _⟩
      | cons x b ih =>
        obtain ⟨c', m', e1, e2, e3⟩ := ih
        obtain ⟨c2, m2, f1, f2, f3⟩ := turn1 (red_nf (b ++ w ++ opp b)) e1 e2 x
        refine ⟨c2, m2, ?_, f2, e3.trans f3⟩
        rw [← f1, opp_cons]
        have e : x :: b ++ w ++ (opp b ++ [-x]) = [x] ++ ((b ++ w ++ opp b) ++ [-x]) := by simp [List.append_assoc]
        rw [e, ← red_app_r, ← red_app_l (b ++ w ++ opp b), red_app_r, List.append_assoc [x]]
theorem spl_uniq : ∀ {c c' : List Int} {w m m' : List Int}, Spl w c m → Spl w c' m' → c = c' ∧ m = m' := fun {c} => by
  suffices ∀ {c' w m m' : List Int}, w = c ++ m ++ opp c → w = c' ++ m' ++ opp c' → Cr m → Cr m' → c = c' ∧ m = m' by
    intro c' w m m' s s'
    by_cases hn : w = []
    · obtain ⟨rfl, rfl⟩ := s.2.1 hn
      obtain ⟨rfl, rfl⟩ := s'.2.1 hn
      exact ⟨rfl, rfl⟩
    · exact this s.1 s'.1 (s.2.2 hn) (s'.2.2 hn)
  have bad : ∀ {x : Int} {c m : List Int}, Cr (x :: c ++ m ++ opp (x :: c)) → False := fun {x c m} h => by
    rw [opp_cons, ← List.append_assoc] at h
    exact h.2 (-x) x (last_snoc _ _) rfl rfl
  induction c with
  | nil =>
    intro c' w m m' s s' h h'
    have s : w = m := by rw [s]; simp [opp]
    subst s
    cases c' with
    | nil => exact ⟨rfl, by rw [s']; simp [opp]⟩
    | cons x c' => rw [s'] at h; exact (bad h).elim
  | cons x c ih =>
    intro c' w m m' s s' h h'
    cases c' with
    | nil =>
      have s' : w = m' := by rw [s']; simp [opp]
      subst s'
      rw [s] at h'
      exact (bad h').elim
    | cons y c' =>
      rw [s, opp_cons, opp_cons, ← List.append_assoc, ← List.append_assoc] at s'
      injection s' with e1 e2
      subst e1
      have e3 := List.append_inj_left' e2 rfl
      obtain ⟨rfl, rfl⟩ := ih rfl e3 h h'
      exact ⟨rfl, rfl⟩
/-- the ring of a word -/
def RingW (w r : List Int) : Prop := ∃ c m, Spl w c m ∧ Ring m r
theorem ringw_uniq {w r q : List Int} (h : RingW w r) (g : RingW w q) : r = q := by
  obtain ⟨c, m, h1, h2⟩ := h
  obtain ⟨c', m', g1, g2⟩ := g
  obtain ⟨rfl, rfl⟩ := spl_uniq h1 g1
  exact ring_uniq h2 g2
theorem ringw_turn {w r : List Int} (hw : Nf w) (h : RingW w r) (b : List Int) : RingW (red (b ++ w ++ opp b)) r := by
  obtain ⟨c, m, h1, h2⟩ := h
  obtain ⟨c', m', g1, g2⟩ := turn w c m hw h1 b
  exact ⟨c', m', g1, ring_tn g2 h2⟩
theorem opp_last (m : List Int) : (opp m).getLast? = m.head?.map fun e => -e := by
  cases m with
  | nil => rfl
  | cons a b => rw [opp_cons, last_snoc]; rfl
theorem opp_head (m : List Int) : (opp m).head? = m.getLast?.map fun e => -e := by
  by_cases hn : m = []
  · subst hn; rfl
  · obtain ⟨t, q, rfl⟩ := snoc_of hn
    rw [opp_app, last_snoc]
    rfl
theorem cr_opp {m : List Int} (h : Cr m) : Cr (opp m) := by
  refine ⟨fun q => h.1 (by have := congrArg opp q; rw [opp_opp] at this; exact this), fun x y hx hy => ?_⟩
  rw [opp_last] at hx
  rw [opp_head] at hy
  cases h1 : m.head? with
  | none => rw [h1] at hx; cases hx
  | some a =>
    cases h2 : m.getLast? with
    | none => rw [h2] at hy; cases hy
    | some b =>
      rw [h1] at hx
      rw [h2] at hy
      cases hx
      cases hy
      have := h.2 b a h2 h1
      show -a ≠ - -b
      omega
theorem spl_opp {w c m : List Int} (s : Spl w c m) : Spl (opp w) c (opp m) := by
  by_cases hn : w = []
  · obtain ⟨rfl, rfl⟩ := s.2.1 hn
    subst hn
    exact spl_nil
  · refine spl_of ?_ (cr_opp (s.2.2 hn))
    rw [s.1, opp_app, opp_app, opp_opp, List.append_assoc]
theorem opp_at {m : List Int} {i : Nat} (hi : i < m.length) : (opp m).getD i 0 = - m.getD (m.length - 1 - i) 0 := by
  rw [List.getD_eq_getElem?_getD]
  unfold opp
  rw [List.getElem?_reverse (by rw [List.length_map]; exact hi), List.length_map, List.getElem?_map, N0.getD_of (by omega)]
  rfl
theorem no_back {m : List Int} (hn : Nf m) (hz : ∀ e, e ∈ m → e ≠ 0) (h : Tn m (opp m)) : m = [] := by
  refine Decidable.byContradiction fun hne => ?_
  have hp : 0 < m.length := List.length_pos_iff.mpr hne
  obtain ⟨_, k, h⟩ := h
  have hk := Nat.mod_lt k hp
  have h : ∀ i, i < m.length → - m.getD (m.length - 1 - i) 0 = sq m (k % m.length + i) := fun i hi => by
    have := h i
    rw [show sq (opp m) i = (opp m).getD i 0 from sq_self (by rw [opp_len]; exact hi), opp_at hi] at this
    rw [this, (per_sq m).mod]
  rcases Nat.mod_two_eq_zero_or_one (m.length - 1 - k % m.length) with q | q
  · have := h ((m.length - 1 - k % m.length) / 2) (by omega)
    rw [sq_self (by omega)] at this
    have e : k % m.length + (m.length - 1 - k % m.length) / 2 = m.length - 1 - (m.length - 1 - k % m.length) / 2 := by omega
    rw [e] at this
    exact hz _ (List.mem_of_getElem? (N0.getD_of (ns := m) (j := m.length - 1 - (m.length - 1 - k % m.length) / 2) (by omega))) (by omega)
  · have := h ((m.length - 2 - k % m.length) / 2) (by omega)
    rw [sq_self (by omega)] at this
    have e : m.length - 1 - (m.length - 2 - k % m.length) / 2 = k % m.length + (m.length - 2 - k % m.length) / 2 + 1 := by omega
    rw [e] at this
    exact N0.nf_at hn (k % m.length + (m.length - 2 - k % m.length) / 2) (by omega) this.symm
theorem spl_empty {w c m : List Int} (s : Spl w c m) (h : m = []) : w = [] := Decidable.byContradiction fun q => (s.2.2 q).1 h
theorem ringw_back {w r : List Int} (hn : Nf w) (hz : ∀ e, e ∈ w → e ≠ 0) (h : RingW w r) (g : RingW (opp w) r) : w = [] := by
  obtain ⟨c, m, h1, h2⟩ := h
  obtain ⟨c', m', g1, g2⟩ := g
  obtain ⟨rfl, rfl⟩ := spl_uniq g1 (spl_opp h1)
  refine spl_empty h1 (no_back (nf_mid (h1.1 ▸ hn)) (fun e he => hz e (by rw [h1.1]; simp [he])) (tn_of_ring h2 g2))
theorem rep_at (l : List Int) : ∀ n i, i < n * l.length → (rep l n).getD i 0 = l.getD (i % l.length) 0
  | 0, i, h => by omega
  | n + 1, i, h => by
    show (rep l n ++ l).getD i 0 = _
    rw [Nat.succ_mul] at h
    rw [List.getD_eq_getElem?_getD]
    by_cases q : i < n * l.length
    · rw [List.getElem?_append_left (by rw [rep_len]; exact q), ← List.getD_eq_getElem?_getD, rep_at l n i q]
    · rw [List.getElem?_append_right (by rw [rep_len]; omega), rep_len, ← List.getD_eq_getElem?_getD]
      have e : i = (i - n * l.length) + n * l.length := by omega
      have e2 : i % l.length = i - n * l.length := by
        rw [e, Nat.add_mul_mod_self_right, Nat.mod_eq_of_lt (by omega)]
        omega
      rw [e2]
theorem sq_rep (l : List Int) (n : Nat) : sq (rep l (n + 1)) = sq l := by
  funext i
  unfold sq
  by_cases hn : l = []
  · subst hn; rw [rep_nil]
  · have hp : 0 < l.length := List.length_pos_iff.mpr hn
    have : 0 < (n + 1) * l.length := Nat.mul_pos (by omega) hp
    rw [rep_at l (n + 1) _ (by rw [rep_len]; exact Nat.mod_lt _ this), rep_len, Nat.mod_mod_of_dvd _ ⟨n + 1, Nat.mul_comm _ _⟩]
theorem ring_rep {m r : List Int} (h : Ring m r) (n : Nat) : Ring (rep m (n + 1)) (rep r (n + 1)) := by
  obtain ⟨h1, s, h2, h3⟩ := h
  refine ⟨by rw [rep_len, rep_len, h1], s, ?_, fun i => ?_⟩
  · rw [sq_rep]; exact h2
  · rw [sq_rep, sq_rep]; exact h3 i
theorem rep_ends {m : List Int} (h : Cr m) (n : Nat) : Cr (rep m (n + 1)) := by
  obtain ⟨t, z, e⟩ := snoc_of h.1
  have hz : m.getLast? = some z := by rw [e]; exact last_snoc _ _
  obtain ⟨p, hp⟩ : ∃ p, m.head? = some p := by
    cases m with
    | nil => exact absurd rfl h.1
    | cons a b => exact ⟨a, rfl⟩
  refine ⟨fun q => ?_, fun x y hx hy => ?_⟩
  · have := head_rep hp n
    rw [q] at this
    cases this
  · rw [last_rep hz n] at hx
    rw [head_rep hp n] at hy
    cases hx
    cases hy
    exact h.2 z p hz hp
theorem ringw_rep {w r : List Int} (hw : Nf w) (h : RingW w r) (n : Nat) : RingW (red (rep w (n + 1))) (rep r (n + 1)) := by
  obtain ⟨c, m, h1, h2⟩ := h
  by_cases hn : w = []
  · obtain ⟨rfl, rfl⟩ := h1.2.1 hn
    subst hn
    refine ⟨[], [], by rw [rep_nil]; exact spl_nil, ?_⟩
    have := ring_rep h2 n
    rw [rep_nil] at this
    exact this
  · have hm := h1.2.2 hn
    have e := red_pow (h1.1 ▸ hw) hm.1 hm.2 n
    rw [← h1.1] at e
    rw [e]
    exact ⟨c, rep m (n + 1), spl_of rfl (rep_ends hm n), ring_rep h2 n⟩
theorem cr_rot {m : List Int} (hn : Nf m) (h : Cr m) (k : Nat) (hk : k < m.length) : Nf (rot m k) ∧ Cr (rot m k) := by
  unfold rot
  have e := List.take_append_drop k m
  have hb : m.drop k ≠ [] := fun q => by have := congrArg List.length q; rw [List.length_drop] at this; simp at this; omega
  generalize m.take k = a at e
  generalize m.drop k = b at e hb
  subst e
  cases a with
  | nil => rw [List.append_nil]; exact ⟨hn, h⟩
  | cons p a =>
    obtain ⟨t, z, rfl⟩ := snoc_of hb
    refine ⟨nf_join (nf_back hn) (nf_front hn) fun x y hx hy => ?_, by simp, fun x y hx hy => ?_⟩
    · exact h.2 x y (by rw [List.getLast?_append, hx]; rfl) hy
    · rw [List.getLast?_append] at hx
      have hy : (t ++ [z]).head? = some y := by
        rw [List.head?_append] at hy
        cases t with
        | nil => exact hy
        | cons u v => exact hy
      refine nf_jn hn ?_ hy
      cases q : (p :: a).getLast? with
      | none => cases a <;> simp at q
      | some v => rw [q] at hx; exact hx
theorem ring_is {m r : List Int} (h : Ring m r) : m = [] ∧ r = [] ∨ ∃ k, k < m.length ∧ r = rot m k := by
  by_cases hn : m.length = 0
  · have e1 : m = [] := List.eq_nil_of_length_eq_zero hn
    exact .inl ⟨e1, List.eq_nil_of_length_eq_zero (h.1.trans hn)⟩
  · obtain ⟨k, hk, g⟩ := exists_min (sq m) m.length (by omega)
    exact .inr ⟨k, hk, ring_uniq h (ring_rot (by omega) (least_min (per_sq m) (by omega) g))⟩
theorem mem_rot {m : List Int} {k : Nat} {e : Int} (h : e ∈ rot m k) : e ∈ m := by
  unfold rot at h
  rw [List.mem_append] at h
  exact h.elim List.mem_of_mem_drop List.mem_of_mem_take
/-- the ring of a word is a word, and its own ring -/
theorem ringw_self {w r : List Int} (hw : Nf w) (h : RingW w r) : Nf r ∧ RingW r r ∧ (∀ e, e ∈ r → e ∈ w) ∧ r.length ≤ w.length := by
  obtain ⟨c, m, h1, h2⟩ := h
  have hl := congrArg List.length h1.1
  rw [List.length_append, List.length_append] at hl
  have hl2 := h2.1
  rcases ring_is h2 with ⟨rfl, rfl⟩ | ⟨k, hk, rfl⟩
  · exact ⟨True.intro, ⟨[], [], spl_nil, h2⟩, (fun e he => nomatch he), Nat.zero_le _⟩
  · have hn : w ≠ [] := fun q => by
      obtain ⟨_, rfl⟩ := h1.2.1 q
      simp at hk
    obtain ⟨e1, e2⟩ := cr_rot (nf_mid (h1.1 ▸ hw)) (h1.2.2 hn) k hk
    exact ⟨e1, ⟨[], _, spl_of (by simp [opp]) e2, h2.self⟩, fun e he => by rw [h1.1]; simp [mem_rot he], by omega⟩
/-- the word between -/
theorem between_ok {one other c1 m1 c2 m2 : List Int} {k : Nat} (s1 : Spl one c1 m1) (s2 : Spl other c2 m2) (hn : Nf other) (h : rot m1 k = m2) :
    red (red (c2 ++ opp (m1.take k) ++ opp c1) ++ one ++ opp (red (c2 ++ opp (m1.take k) ++ opp c1))) = other := by
  generalize eA : c2 ++ opp (m1.take k) ++ opp c1 = A
  have : red (red A ++ one ++ opp (red A)) = red (A ++ one ++ opp A) := by
    rw [opp_red, red_app_r, List.append_assoc, red_app_l, ← List.append_assoc]
  rw [this, ← eA, s1.1, ← red_id hn, s2.1, ← h]
  have e := (List.take_append_drop k m1).symm
  unfold rot
  generalize m1.take k = t at e ⊢
  generalize m1.drop k = d at e ⊢
  rw [e]
  refine red_congr ?_
  have n0 : Nf (act c2 []) := Nf.of_act c2
  simp only [opp_app, opp_opp, act_app]
  rw [opp_act c1 (act_nf _ n0), opp_act t n0, opp_act c1 (act_nf _ n0)]
theorem rot_rot {m : List Int} {i j : Nat} {u : List Int} (hm : m ≠ []) (hi : i < m.length) (hj : j < u.length) (hl : u.length = m.length) (h : rot m i = rot u j) (k : Nat) (hk : (k : Int) = ((i : Int) - (j : Int)) % (m.length : Int)) : rot m k = u := by
  have hp : 0 < m.length := List.length_pos_iff.mpr hm
  have hk2 : k < m.length := by
    have := Int.emod_lt_of_pos ((i : Int) - j) (show (0 : Int) < m.length by omega)
    omega
  have hk3 : k + j = i ∨ k + j = i + m.length := by
    by_cases q : j ≤ i
    · left
      have : ((i : Int) - j) % (m.length : Int) = (i : Int) - j := Int.emod_eq_of_lt (by omega) (by omega)
      omega
    · right
      have : ((i : Int) - j) % (m.length : Int) = (i : Int) - j + m.length := by
        rw [← Int.add_emod_right]
        exact Int.emod_eq_of_lt (by omega) (by omega)
      omega
  have hs : ∀ z, sq m (i + z) = sq u (j + z) := fun z => by rw [← rot_sq (by omega) z, h, rot_sq (by omega) z]
  have hs2 : ∀ z, sq m (k + j + z) = sq u (j + z) := fun z => by
    rcases hk3 with q | q
    · rw [q]; exact hs z
    · rw [q, show i + m.length + z = i + z + m.length by omega, per_sq m]; exact hs z
  refine list_ext (by rw [rot_len, hl]) fun z hz => ?_
  rw [rot_len] at hz
  rw [rot_at (by omega) hz, ← sq_self (by omega : z < u.length)]
  by_cases q : j ≤ z
  · have := hs2 (z - j)
    rw [show k + j + (z - j) = k + z by omega, show j + (z - j) = z by omega] at this
    exact this
  · have := hs2 (z + m.length - j)
    rw [show k + j + (z + m.length - j) = k + z + m.length by omega, per_sq m, show j + (z + m.length - j) = z + u.length by omega, per_sq u] at this
    exact this
end Rg

/-! roots, and words that go together -/
namespace Rg
open Fr
def MinPer (a : Nat → Int) (p : Nat) : Prop := 0 < p ∧ Per a p ∧ ∀ q, 0 < q → q < p → ¬ Per a q
variable {a : Nat → Int}
theorem per_sub {p n : Nat} (hp : Per a p) (hn : Per a n) : Per a (n % p) := fun i => by
  have := hp.mul (n / p) (i + n % p)
  have e : i + n % p + n / p * p = i + n := by have := Nat.mod_add_div n p; rw [Nat.mul_comm] at this; omega
  rw [e, hn] at this
  exact this.symm
theorem minper_dvd {p n : Nat} (h : MinPer a p) (hn : Per a n) : p ∣ n := by
  refine Nat.dvd_of_mod_eq_zero (Decidable.byContradiction fun q => ?_)
  exact h.2.2 (n % p) (by omega) (Nat.mod_lt _ h.1) (per_sub h.2.1 hn)
theorem minper_uniq {p q : Nat} (h : MinPer a p) (g : MinPer a q) : p = q := by
  rcases Nat.lt_trichotomy p q with z | z | z
  · exact absurd h.2.1 (g.2.2 p h.1 z)
  · exact z
  · exact absurd g.2.1 (h.2.2 q g.1 z)
theorem minper_ex : ∀ n, 0 < n → Per a n → ∃ p, p ≤ n ∧ MinPer a p := fun n => by
  induction n using Nat.strongRecOn with
  | ind n ih =>
    intro hn h
    by_cases q : ∃ m, 0 < m ∧ m < n ∧ Per a m
    · obtain ⟨m, m1, m2, m3⟩ := q
      obtain ⟨p, p1, p2⟩ := ih m m2 m1 m3
      exact ⟨p, by omega, p2⟩
    · exact ⟨n, Nat.le_refl _, hn, h, fun m m1 m2 m3 => q ⟨m, m1, m2, m3⟩⟩
/-- the shortest row that makes m -/
def IsRt (m : List Int) (p : Nat) : Prop := 0 < p ∧ p ≤ m.length ∧ rep (m.take p) (m.length / p) = m ∧ ∀ q, 0 < q → q < p → rep (m.take q) (m.length / q) ≠ m
theorem take_at {m : List Int} {p i : Nat} (hi : i < p) (hp : p ≤ m.length) : (m.take p).getD i 0 = m.getD i 0 := by
  rw [List.getD_eq_getElem?_getD, List.getD_eq_getElem?_getD, List.getElem?_take, if_pos hi]
theorem per_of_rep {m : List Int} {p : Nat} (h0 : 0 < p) (hp : p ≤ m.length) (h : rep (m.take p) (m.length / p) = m) : Per (sq m) p := by
  have hk : 0 < m.length / p := Nat.div_pos hp h0
  obtain ⟨k, hk⟩ : ∃ k, m.length / p = k + 1 := ⟨m.length / p - 1, by omega⟩
  rw [hk] at h
  rw [← h, sq_rep]
  have := per_sq (m.take p)
  rw [List.length_take, Nat.min_eq_left hp] at this
  exact this
theorem rep_of_per {m : List Int} {p : Nat} (h0 : 0 < p) (hd : p ∣ m.length) (h : Per (sq m) p) : rep (m.take p) (m.length / p) = m := by
  by_cases hm : m.length = 0
  · have : m = [] := List.eq_nil_of_length_eq_zero hm
    subst this
    simp [rep]
  have hp : p ≤ m.length := Nat.le_of_dvd (by omega) hd
  have hl : (m.take p).length = p := by rw [List.length_take]; omega
  have hn : m.length / p * p = m.length := Nat.div_mul_cancel hd
  refine list_ext (by rw [rep_len, hl, hn]) fun i hi => ?_
  rw [rep_len, hl, hn] at hi
  rw [rep_at _ _ _ (by rw [hl, hn]; exact hi), hl, take_at (Nat.mod_lt _ h0) hp]
  have e1 := h.mul (i / p) (i % p)
  have e2 : i % p + i / p * p = i := by have := Nat.mod_add_div i p; rw [Nat.mul_comm] at this; omega
  rw [e2] at e1
  have := Nat.mod_le i p
  rw [sq_self hi, sq_self (by omega)] at e1
  exact e1.symm
theorem rt_min {m : List Int} {p : Nat} (h : IsRt m p) : MinPer (sq m) p := by
  obtain ⟨h0, hp, h1, h2⟩ := h
  refine ⟨h0, per_of_rep h0 hp h1, fun q q0 q1 hq => ?_⟩
  obtain ⟨r, r1, r2⟩ := minper_ex q q0 hq
  exact h2 r r2.1 (by omega) (rep_of_per r2.1 (minper_dvd r2 (per_sq m)) r2.2.1)
theorem min_rt {m : List Int} {p : Nat} (hm : m ≠ []) (h : MinPer (sq m) p) : IsRt m p := by
  have hl := List.length_pos_iff.mpr hm
  have hd := minper_dvd h (per_sq m)
  refine ⟨h.1, Nat.le_of_dvd hl hd, rep_of_per h.1 hd h.2.1, fun q q0 q1 hq => h.2.2 q q0 q1 (per_of_rep q0 (by have := Nat.le_of_dvd hl hd; omega) hq)⟩
theorem rt_dvd {m : List Int} {p : Nat} (h : IsRt m p) : p ∣ m.length := minper_dvd (rt_min h) (per_sq m)
/-- root and exponent of a word -/
def RootW (w r : List Int) (e : Nat) : Prop := ∃ c m p, Spl w c m ∧ w ≠ [] ∧ IsRt m p ∧ r = c ++ m.take p ++ opp c ∧ e = m.length / p
theorem rootw_uniq {w r s : List Int} {e f : Nat} (h : RootW w r e) (g : RootW w s f) : r = s ∧ e = f := by
  obtain ⟨c, m, p, h1, _, h2, rfl, rfl⟩ := h
  obtain ⟨c', m', p', g1, _, g2, rfl, rfl⟩ := g
  obtain ⟨rfl, rfl⟩ := spl_uniq h1 g1
  obtain rfl := minper_uniq (rt_min h2) (rt_min g2)
  exact ⟨rfl, rfl⟩
theorem last_of_rep {u : List Int} {k : Nat} : (rep u (k + 1)).getLast? = u.getLast? := by
  cases q : u.getLast? with
  | none =>
    have : u = [] := List.getLast?_eq_none_iff.mp q
    rw [this, rep_nil]
    rfl
  | some z => exact last_rep q k
theorem head_of_rep {u : List Int} {k : Nat} : (rep u (k + 1)).head? = u.head? := by
  cases u with
  | nil => rw [rep_nil]
  | cons x t => exact head_rep rfl k
theorem cr_of_rep {u : List Int} {k : Nat} (h : Cr (rep u (k + 1))) : Cr u := ⟨fun q => h.1 (by rw [q, rep_nil]), fun x y hx hy => h.2 x y (by rw [last_of_rep]; exact hx) (by rw [head_of_rep]; exact hy)⟩
/-- a row in its two parts, by the shortest piece -/
theorem nf_piece {c u : List Int} {k : Nat} (h : Nf (c ++ rep u (k + 1) ++ opp c)) (hu : u ≠ []) : Nf (c ++ u ++ opp c) := by
  have h1 := nf_front h
  rw [rep_front, ← List.append_assoc] at h1
  refine nf_join (nf_front h1) (nf_back h) fun x y hx hy => ?_
  refine nf_jn h ?_ hy
  rw [List.getLast?_append] at hx ⊢
  rw [last_of_rep]
  cases q : u.getLast? with
  | none => exact absurd (List.getLast?_eq_none_iff.mp q) hu
  | some z => rw [q] at hx; exact hx
theorem nf_piece_up {c u : List Int} (h : Nf (c ++ u ++ opp c)) (hu : Cr u) (k : Nat) : red (rep (c ++ u ++ opp c) (k + 1)) = c ++ rep u (k + 1) ++ opp c ∧ Nf (c ++ rep u (k + 1) ++ opp c) := by
  have e := red_pow h hu.1 hu.2 k
  exact ⟨e, e ▸ red_nf _⟩
theorem rootw_make {c u : List Int} (h : Nf (c ++ u ++ opp c)) (hu : Cr u) (hm : MinPer (sq u) u.length) (k : Nat) : RootW (c ++ rep u (k + 1) ++ opp c) (c ++ u ++ opp c) (k + 1) := by
  have hl := List.length_pos_iff.mpr hu.1
  have hr := rep_ends hu k
  have hmin : MinPer (sq (rep u (k + 1))) u.length := by rw [sq_rep]; exact hm
  refine ⟨c, rep u (k + 1), u.length, spl_of rfl hr, fun q => ?_, min_rt hr.1 hmin, ?_, ?_⟩
  · have := congrArg List.length q
    simp only [List.length_append, List.length_nil] at this
    exact hr.1 (List.eq_nil_of_length_eq_zero (by omega))
  · rw [rep_front, List.take_left]
  · rw [rep_len, Nat.mul_div_cancel _ hl]
structure RtF (w r : List Int) (e : Nat) (c u : List Int) : Prop where
  er : r = c ++ u ++ opp c
  ew : w = c ++ rep u e ++ opp c
  e0 : 0 < e
  cr : Cr u
  nf : Nf r
  min : MinPer (sq u) u.length
theorem rootw_facts {w r : List Int} {e : Nat} (hw : Nf w) (h : RootW w r e) : ∃ c u, RtF w r e c u := by
  obtain ⟨c, m, p, s, hn, hr, rfl, rfl⟩ := h
  have hmin := rt_min hr
  obtain ⟨p0, pl, h1, h2⟩ := hr
  have hk : 0 < m.length / p := Nat.div_pos pl p0
  obtain ⟨k, hk2⟩ : ∃ k, m.length / p = k + 1 := ⟨m.length / p - 1, by omega⟩
  have hl : (m.take p).length = p := by rw [List.length_take]; omega
  have hcr := s.2.2 hn
  rw [hk2] at h1
  have hs := s.1
  rw [← h1] at hcr hs hmin
  rw [sq_rep] at hmin
  have hu := cr_of_rep hcr
  refine ⟨c, m.take p, rfl, ?_, hk, hu, nf_piece (k := k) (by rw [← hs]; exact hw) hu.1, by rw [hl]; exact hmin⟩
  rw [hk2]
  exact hs
theorem rootw_pow {w r : List Int} {e : Nat} (hw : Nf w) (h : RootW w r e) : red (rep r e) = w := by
  obtain ⟨c, u, f⟩ := rootw_facts hw h
  obtain ⟨k, hk⟩ : ∃ k, e = k + 1 := ⟨e - 1, by have := f.e0; omega⟩
  have hf := f.nf
  rw [f.er] at hf
  rw [f.er, f.ew, hk]
  exact (nf_piece_up hf f.cr k).1
theorem rootw_self {w r : List Int} {e : Nat} (hw : Nf w) (h : RootW w r e) : RootW r r 1 := by
  obtain ⟨c, u, f⟩ := rootw_facts hw h
  have hf := f.nf
  rw [f.er] at hf
  have := rootw_make hf f.cr f.min 0
  rw [show rep u (0 + 1) = u from rfl] at this
  rw [f.er]
  exact this
/-! turning by letters -/
theorem step3 {x : List Int} (hx : Nf x) (h : Cr x) (z : Int) :
    (x.head? = some (-z) ∧ red ([z] ++ x ++ [-z]) = rot x 1) ∨ (x.getLast? = some z ∧ opp (red ([z] ++ x ++ [-z])) = rot (opp x) 1) ∨ (x.head? ≠ some (-z) ∧ x.getLast? ≠ some z ∧ red ([z] ++ x ++ [-z]) = [z] ++ x ++ [-z]) := by
  have left : ∀ {x : List Int}, Nf x → Cr x → x.head? = some (-z) → red ([z] ++ x ++ [-z]) = rot x 1 := fun {x} hx h q => by
    cases x with
    | nil => cases q
    | cons p t =>
      cases q
      have e : [z] ++ (-z :: t) ++ [-z] = [] ++ z :: (-z) :: (t ++ [-z]) := rfl
      rw [e, red_strike _ _ _ _ (by omega), List.nil_append]
      have : Nf (t ++ [-z]) := nf_end hx.tail fun y hy => by
        refine h.2 y (-z) ?_ rfl
        cases t with
        | nil => cases hy
        | cons a b => rw [List.getLast?_cons_cons]; exact hy
      rw [red_id this]
      rfl
  by_cases q1 : x.head? = some (-z)
  · exact .inl ⟨q1, left hx h q1⟩
  · by_cases q2 : x.getLast? = some z
    · refine .inr (.inl ⟨q2, ?_⟩)
      have := left (nf_opp hx) (cr_opp h) (by rw [opp_head, q2]; rfl)
      rw [← this, opp_red, opp_app, opp_app]
      congr 1
      show [- -z] ++ (opp x ++ [-z]) = _
      rw [Int.neg_neg, List.append_assoc]
    · refine .inr (.inr ⟨q1, q2, red_id ?_⟩)
      obtain ⟨p, t, rfl⟩ : ∃ p t, x = p :: t := by
        cases x with
        | nil => exact absurd rfl h.1
        | cons a b => exact ⟨a, b, rfl⟩
      refine nf_end (w := z :: p :: t) (nf_cons hx fun y hy e => q1 ?_) fun y hy e => q2 ?_
      · cases hy; rw [e, Int.neg_neg]; rfl
      · rw [List.getLast?_cons_cons] at hy
        rw [hy, e, Int.neg_neg]
def AllL (l x : List Int) : Prop := ∀ i, i < l.length → l.getD i 0 = - sq x i
/-- what turning by the letters of l, one by one, makes of x -/
def cj (l x : List Int) : List Int := red (l.reverse ++ x ++ opp l.reverse)
theorem cj_snoc (l x : List Int) (z : Int) : cj (l ++ [z]) x = red ([z] ++ cj l x ++ [-z]) := by
  unfold cj
  rw [List.reverse_append]
  show red ([z] ++ l.reverse ++ x ++ opp ([z] ++ l.reverse)) = _
  rw [opp_app, ← red_app_l ([z] ++ red _), red_app_r, red_app_l]
  show _ = red (_ ++ opp [z])
  simp only [List.append_assoc]
def Long (l x R : List Int) : Prop := ∃ c m, R = c ++ m ++ opp c ∧ Nf R ∧ Cr m ∧ m.length = x.length ∧ c ≠ [] ∧ c.head? = l.getLast?
theorem getD_snoc_l {l : List Int} {z : Int} {i : Nat} (h : i < l.length) : (l ++ [z]).getD i 0 = l.getD i 0 := by
  rw [List.getD_eq_getElem?_getD, List.getElem?_append_left h, ← List.getD_eq_getElem?_getD]
theorem getD_snoc_r {l : List Int} {z : Int} : (l ++ [z]).getD l.length 0 = z := by
  rw [List.getD_eq_getElem?_getD, List.getElem?_append_right (Nat.le_refl _), Nat.sub_self]
  rfl
theorem head_sq {x : List Int} (h : x ≠ []) : x.head? = some (sq x 0) := by
  cases x with
  | nil => exact absurd rfl h
  | cons a b => unfold sq; rw [Nat.zero_mod]; rfl
theorem last_sq {x : List Int} (h : x ≠ []) : x.getLast? = some (sq x (x.length - 1)) := by
  have hl := List.length_pos_iff.mpr h
  rw [sq_self (by omega), List.getLast?_eq_getElem?, N0.getD_of (by omega)]
theorem roll_one {l x R : List Int} {z : Int} (hl : R.length = x.length) (hx : x ≠ []) (h1 : AllL l x) (h2 : ∀ i, sq R i = sq x (l.length + i)) (hz : R.head? = some (-z)) : AllL (l ++ [z]) x ∧ ∀ i, sq (rot R 1) i = sq x ((l ++ [z]).length + i) := by
  have hn := List.length_pos_iff.mpr hx
  have hR : R ≠ [] := fun q => by rw [q] at hl; simp at hl; omega
  refine ⟨fun i hi => ?_, fun i => ?_⟩
  · rw [List.length_append] at hi
    by_cases q : i < l.length
    · rw [getD_snoc_l q]; exact h1 i q
    · have : i = l.length := by simp at hi; omega
      subst this
      rw [getD_snoc_r]
      rw [head_sq hR, h2] at hz
      have := Option.some.inj hz
      rw [Nat.add_zero] at this
      omega
  · rw [rot_sq (by omega), h2, List.length_append]
    show sq x (l.length + (1 + i)) = sq x (l.length + 1 + i)
    rw [Nat.add_assoc]
theorem nf_last {l : List Int} {y z : Int} (h : Nf (l ++ [z])) (hy : l.getLast? = some y) : y ≠ -z := nf_jn h hy rfl
theorem back_no {l x R : List Int} {z : Int} (hl : R.length = x.length) (hx : x ≠ []) (hne : l ≠ []) (h1 : AllL l x) (h2 : ∀ i, sq R i = sq x (l.length + i)) (hz : R.getLast? = some z) (hnf : Nf (l ++ [z])) : False := by
  have hn := List.length_pos_iff.mpr hx
  have hln := List.length_pos_iff.mpr hne
  have hR : R ≠ [] := fun q => by rw [q] at hl; simp at hl; omega
  have e := last_sq hR
  rw [hz, h2, hl, show l.length + (x.length - 1) = l.length - 1 + x.length by omega, per_sq x] at e
  have e2 := h1 (l.length - 1) (by omega)
  have e3 : l.getLast? = some (-z) := by
    rw [List.getLast?_eq_getElem?, N0.getD_of (by omega), e2, Option.some.inj e]
  exact nf_last hnf e3 rfl
theorem opp_nil_iff {x : List Int} (h : opp x = []) : x = [] := by have := congrArg opp h; rw [opp_opp] at this; exact this
theorem rolls (x : List Int) (hx : Nf x) (h : Cr x) : ∀ l, Nf l → Long l x (cj l x) ∨
    (Nf (cj l x) ∧ Cr (cj l x) ∧ (cj l x).length = x.length ∧ ((AllL l x ∧ ∀ i, sq (cj l x) i = sq x (l.length + i)) ∨ (AllL l (opp x) ∧ ∀ i, sq (opp (cj l x)) i = sq (opp x) (l.length + i)))) := fun l => by
  induction l using snoc_ind with
  | h0 =>
    intro _
    have e : cj [] x = x := by unfold cj; simp [opp, red_id hx]
    rw [e]
    exact .inr ⟨hx, h, rfl, .inl ⟨fun i hi => absurd hi (Nat.not_lt_zero _), fun i => by rw [List.length_nil, Nat.zero_add]⟩⟩
  | h1 l z ih =>
    intro hl
    rw [cj_snoc]
    rcases ih (nf_front hl) with ⟨c, m, e1, e2, e3, e4, e5, e6⟩ | ⟨n1, n2, n3, n4⟩
    · left
      have hne : l ≠ [] := fun q => by rw [q] at e6; cases c with | nil => exact e5 rfl | cons a b => cases e6
      obtain ⟨t, y, rfl⟩ := snoc_of hne
      rw [last_snoc] at e6
      obtain ⟨c', rfl⟩ : ∃ c', c = y :: c' := by cases c with | nil => exact absurd rfl e5 | cons a b => cases e6; exact ⟨b, rfl⟩
      have hyz : y ≠ -z := nf_last hl (last_snoc _ _)
      have nf2 : Nf ([z] ++ cj (t ++ [y]) x ++ [-z]) := by
        rw [e1] at e2 ⊢
        refine nf_end (w := z :: (y :: c' ++ m ++ opp (y :: c'))) (nf_cons e2 fun u hu => ?_) fun u hu => ?_
        · cases hu; omega
        · rw [opp_cons, ← List.append_assoc, ← List.cons_append, last_snoc] at hu
          cases hu
          omega
      rw [red_id nf2]
      refine ⟨z :: y :: c', m, ?_, nf2, e3, e4, by simp, by rw [last_snoc]; rfl⟩
      rw [e1, opp_cons z]
      simp [List.append_assoc]
    · have hxo : opp x ≠ [] := fun q => h.1 (opp_nil_iff q)
      generalize cj l x = R at n1 n2 n3 n4
      rcases step3 n1 n2 z with ⟨s1, s2⟩ | ⟨s1, s2⟩ | ⟨s1, s2, s3⟩
      · -- to the left
        right
        rw [s2]
        have hR : 1 < R.length + 1 := by have := List.length_pos_iff.mpr n2.1; omega
        have crr : Nf (rot R 1) ∧ Cr (rot R 1) := by
          by_cases q : R.length = 1
          · obtain ⟨p, rfl⟩ : ∃ p, R = [p] := by match R, q with | [p], _ => exact ⟨p, rfl⟩
            exact ⟨n1, n2⟩
          · exact cr_rot n1 n2 1 (by omega)
        refine ⟨crr.1, crr.2, by rw [rot_len]; exact n3, ?_⟩
        rcases n4 with ⟨a1, a2⟩ | ⟨a1, a2⟩
        · exact .inl (roll_one n3 h.1 a1 a2 s1)
        · by_cases hne : l = []
          · subst hne
            have a2' : opp R = opp x := list_ext (by rw [opp_len, opp_len, n3]) fun j hj => by rw [← sq_self hj, a2, List.length_nil, Nat.zero_add, sq_self (by rw [opp_len] at hj ⊢; omega)]
            have : R = x := by have := congrArg opp a2'; rw [opp_opp, opp_opp] at this; exact this
            subst this
            exact .inl (roll_one rfl h.1 (fun i hi => absurd hi (Nat.not_lt_zero _)) (fun i => by rw [List.length_nil, Nat.zero_add]) s1)
          · exact (back_no (by rw [opp_len, opp_len, n3]) hxo hne a1 a2 (by rw [opp_last, s1]; show some (- -z) = _; rw [Int.neg_neg]) hl).elim
      · right
        have so : red ([z] ++ R ++ [-z]) = opp (rot (opp R) 1) := by rw [← s2, opp_opp]
        rw [so]
        have crr : Nf (rot (opp R) 1) ∧ Cr (rot (opp R) 1) := by
          by_cases q : R.length = 1
          · obtain ⟨p, rfl⟩ : ∃ p, R = [p] := by match R, q with | [p], _ => exact ⟨p, rfl⟩
            exact ⟨nf_opp n1, cr_opp n2⟩
          · have := List.length_pos_iff.mpr n2.1
            exact cr_rot (nf_opp n1) (cr_opp n2) 1 (by rw [opp_len]; omega)
        refine ⟨nf_opp crr.1, cr_opp crr.2, by rw [opp_len, rot_len, opp_len]; exact n3, ?_⟩
        rw [opp_opp]
        have s1' : (opp R).head? = some (-z) := by rw [opp_head, s1]; rfl
        rcases n4 with ⟨a1, a2⟩ | ⟨a1, a2⟩
        · by_cases hne : l = []
          · subst hne
            have : R = x := list_ext n3 fun j hj => by rw [← sq_self hj, a2, List.length_nil, Nat.zero_add, sq_self (by omega)]
            subst this
            exact .inr (roll_one rfl hxo (fun i hi => absurd hi (Nat.not_lt_zero _)) (fun i => by rw [List.length_nil, Nat.zero_add]) s1')
          · exact (back_no n3 h.1 hne a1 a2 s1 hl).elim
        · exact .inr (roll_one (by rw [opp_len, opp_len, n3]) hxo a1 a2 s1')
      · left
        rw [s3]
        refine ⟨[z], R, rfl, ?_, n2, n3, by simp, by rw [last_snoc]; rfl⟩
        rw [← s3]
        exact red_nf _
end Rg

/-! words that go together have a common root -/
namespace Rg
open Fr
theorem sq_opp {m : List Int} {i N : Nat} (h : i < N * m.length) : sq (opp m) i = - sq m (N * m.length - 1 - i) := by
  have hp : 0 < m.length := Nat.pos_of_ne_zero fun q => by rw [q] at h; omega
  have ha := Nat.mod_lt i hp
  have e0 : i = i % m.length + i / m.length * m.length := by have := Nat.mod_add_div i m.length; rw [Nat.mul_comm] at this; omega
  have hb : i / m.length < N := Nat.div_lt_of_lt_mul (by rw [Nat.mul_comm]; exact h)
  obtain ⟨d, hd⟩ : ∃ d, N = i / m.length + 1 + d := ⟨N - (i / m.length + 1), by omega⟩
  have e1 : N * m.length = i / m.length * m.length + m.length + d * m.length := by rw [hd, Nat.add_mul, Nat.add_mul, Nat.one_mul]
  have key : ∀ (NN A D n a i : Nat), a < n → i = a + A → NN = A + n + D → NN - 1 - i = (n - 1 - a) + D := by intros; omega
  have e2 : N * m.length - 1 - i = (m.length - 1 - i % m.length) + d * m.length := key _ _ _ _ _ _ ha e0 e1
  rw [e2, (per_sq m).mul, sq_self (l := m) (j := m.length - 1 - i % m.length) (by omega)]
  show (opp m).getD (i % (opp m).length) 0 = _
  rw [opp_len, opp_at ha]
theorem per_opp {m : List Int} {q : Nat} (hm : m ≠ []) (h : Per (sq m) q) : Per (sq (opp m)) q := fun i => by
  have hp := List.length_pos_iff.mpr hm
  have hN : i + q < (i + q + 1) * m.length := Nat.lt_of_lt_of_le (Nat.lt_succ_self _) (Nat.le_mul_of_pos_right _ hp)
  rw [sq_opp hN, sq_opp (N := i + q + 1) (by omega), ← h ((i + q + 1) * m.length - 1 - (i + q))]
  congr 2
  omega
theorem minper_opp {m : List Int} {p : Nat} (hm : m ≠ []) (h : MinPer (sq m) p) : MinPer (sq (opp m)) p :=
  ⟨h.1, per_opp hm h.2.1, fun q q0 q1 hq => h.2.2 q q0 q1 (by
    have := per_opp (m := opp m) (fun z => hm (opp_nil_iff z)) hq
    rw [opp_opp] at this
    exact this)⟩
theorem rtf_opp {w r c u : List Int} {e : Nat} (f : RtF w r e c u) : opp r = c ++ opp u ++ opp c := by
  rw [f.er, opp_app, opp_app, opp_opp, List.append_assoc]
theorem all_rep {l x u : List Int} {j e : Nat} (hu : u ≠ []) (hx : x = rep u (e + 1)) (hl : l.length = u.length * j) (h : AllL l x) : opp l.reverse = rep u j := by
  have e1 : opp l.reverse = l.map fun e => -e := by unfold opp; rw [List.map_reverse, List.reverse_reverse]
  have hp := List.length_pos_iff.mpr hu
  rw [e1]
  refine list_ext (by rw [List.length_map, rep_len, hl, Nat.mul_comm]) fun i hi => ?_
  rw [List.length_map] at hi
  rw [rep_at u j i (by rw [Nat.mul_comm]; omega)]
  have := h i hi
  rw [List.getD_eq_getElem?_getD, List.getElem?_map, N0.getD_of hi, this, hx, sq_rep]
  show - - sq u i = _
  rw [Int.neg_neg]
  rfl
theorem commute {w v r : List Int} {e : Nat} (hw : Nf w) (hv : Nf v) (hvn : v ≠ []) (h : RootW w r e) (hc : red (w ++ v) = red (v ++ w)) : ∃ j, 0 < j ∧ (RootW v r j ∨ RootW v (opp r) j) := by
  obtain ⟨c, u, f⟩ := rootw_facts hw h
  obtain ⟨k, hk⟩ : ∃ k, e = k + 1 := ⟨e - 1, by have := f.e0; omega⟩
  have hx := rep_ends f.cr k
  have ew := f.ew
  rw [hk] at ew
  have nx : Nf (rep u (k + 1)) := nf_mid (ew ▸ hw)
  have n0 : Nf (act (opp c) []) := Nf.of_act _
  have cm : ∀ {s : List Int}, Nf s → act v (act w s) = act w (act v s) := fun {s} hs => by
    rw [← act_app, ← act_app, ← act_red (w ++ v) hs, ← act_red (v ++ w) hs, hc]
  generalize hB : opp c ++ v ++ c = B
  have hR : cj (red B).reverse (rep u (k + 1)) = rep u (k + 1) := by
    unfold cj
    rw [List.reverse_reverse, opp_red, red_app_r, List.append_assoc, red_app_l, ← List.append_assoc]
    conv => rhs; rw [← red_id nx]
    refine red_congr ?_
    rw [← hB]
    simp only [opp_app, opp_opp, act_app]
    have e1 : ∀ {s : List Int}, Nf s → act (opp c) (act (rep u (k + 1)) (act c s)) = act w s := fun {s} _ => by rw [ew, act_app, act_app]
    rw [e1 (act_nf _ n0), ← cm n0, act_opp v (act_nf _ n0), ← e1 n0, opp_act c (act_nf _ (act_nf _ n0)), opp_act c (s := []) True.intro]
  have hl : Nf (red B).reverse := nf_rev (red_nf B)
  have ev : v = red (c ++ red B ++ opp c) := by
    rw [List.append_assoc, ← red_app_r, red_app_l, red_app_r]
    conv => lhs; rw [← red_id hv]
    refine red_congr ?_
    rw [← hB]
    simp only [act_app]
    rw [act_opp c (s := []) True.intro, act_opp c (Nf.of_act v)]
  have hun : u ≠ [] := f.cr.1
  have hup := List.length_pos_iff.mpr hun
  have hnr := f.nf
  have fin : ∀ (u' : List Int) (j : Nat), Cr u' → Nf (c ++ u' ++ opp c) → MinPer (sq u') u'.length → red B = rep u' j → 0 < j ∧ RootW v (c ++ u' ++ opp c) j := fun u' j h1 h2 h3 h4 => by
    cases j with
    | zero =>
      rw [h4] at ev
      exact absurd (by rw [ev]; show red (c ++ [] ++ opp c) = []; rw [List.append_nil, red_opp_self]) hvn
    | succ j =>
      have hu := (nf_piece_up h2 h1 j).2
      rw [h4, red_id hu] at ev
      rw [ev]
      exact ⟨Nat.succ_pos j, rootw_make h2 h1 h3 j⟩
  rcases rolls (rep u (k + 1)) nx hx _ hl with ⟨c', m, e1, _, _, e4, e5, _⟩ | ⟨_, _, _, n4⟩
  · rw [hR] at e1
    have := congrArg List.length e1
    rw [List.length_append, List.length_append, e4] at this
    exact absurd (List.eq_nil_of_length_eq_zero (by omega)) e5
  · rw [hR] at n4
    rcases n4 with ⟨a1, a2⟩ | ⟨a1, a2⟩
    · have hmin := f.min
      rw [← sq_rep u k] at hmin
      obtain ⟨j, hj⟩ := minper_dvd hmin (n := (red B).reverse.length) (fun i => by rw [Nat.add_comm i]; exact (a2 i).symm)
      have := all_rep hun rfl hj a1
      rw [List.reverse_reverse] at this
      have e2 : red B = rep (opp u) j := by rw [← opp_rep, ← this, opp_opp]
      obtain ⟨z1, z2⟩ := fin (opp u) j (cr_opp f.cr) (by rw [← rtf_opp f]; exact nf_opp hnr) (by rw [opp_len]; exact minper_opp hun f.min) e2
      exact ⟨j, z1, .inr (by rw [rtf_opp f]; exact z2)⟩
    · have hmin := minper_opp hun f.min
      rw [← sq_rep (opp u) k, ← opp_rep] at hmin
      obtain ⟨j, hj⟩ := minper_dvd hmin (n := (red B).reverse.length) (fun i => by rw [Nat.add_comm i]; exact (a2 i).symm)
      have := all_rep (u := opp u) (j := j) (fun z => hun (opp_nil_iff z)) (opp_rep u (k + 1)) (by rw [opp_len]; exact hj) a1
      rw [List.reverse_reverse] at this
      have e2 : red B = rep u j := by rw [← opp_opp (red B), this, opp_rep, opp_opp]
      obtain ⟨z1, z2⟩ := fin u j f.cr (by rw [← f.er]; exact hnr) f.min e2
      exact ⟨j, z1, .inl (by rw [f.er]; exact z2)⟩
theorem rootw_nil {w r : List Int} {e : Nat} (h : RootW w r e) : w ≠ [] := by obtain ⟨_, _, _, _, h, _⟩ := h; exact h
theorem root_ne_opp {r : List Int} (h : Nf r) (hz : ∀ e, e ∈ r → e ≠ 0) (hr : r ≠ []) : r ≠ opp r := fun q => hr (no_back h hz (Eq.subst (motive := fun z => Tn r z) q (Tn.refl r)))
theorem spl_ex : ∀ (n : Nat) (w : List Int), w.length ≤ n → Nf w → (∀ e, e ∈ w → e ≠ 0) → ∃ c m, Spl w c m
  | 0, w, h, _, _ => ⟨[], [], by rw [List.eq_nil_of_length_eq_zero (show w.length = 0 by omega)]; exact spl_nil⟩
  | n + 1, w, h, hn, hz => by
    by_cases hw : w = []
    · subst hw; exact ⟨[], [], spl_nil⟩
    · obtain ⟨p, t, rfl⟩ : ∃ p t, w = p :: t := by
        cases w with
        | nil => exact absurd rfl hw
        | cons a b => exact ⟨a, b, rfl⟩
      by_cases ht : t = []
      · subst ht
        exact ⟨[], [p], spl_of rfl ⟨by simp, fun x y hx hy => by
          have hx : p = x := Option.some.inj hx
          have hy : p = y := Option.some.inj hy
          have := hz p (by simp)
          omega⟩⟩
      · obtain ⟨t, q, rfl⟩ := snoc_of ht
        by_cases e : q = -p
        · have hin : Nf t := nf_front (nf_back (a := [p]) (b := t ++ [q]) hn)
          obtain ⟨c, m, s⟩ := spl_ex n t (by simp at h; omega) hin (fun x hx => hz x (by simp [hx]))
          have htn : t ≠ [] := fun z => by
            subst z
            have := hn.1
            omega
          refine ⟨p :: c, m, spl_of ?_ (s.2.2 htn)⟩
          rw [opp_cons, ← e]
          conv => lhs; rw [s.1]
          simp [List.append_assoc]
        · refine ⟨[], p :: (t ++ [q]), spl_of (by simp [opp]) ⟨by simp, fun x y hx hy => ?_⟩⟩
          rw [← List.cons_append, last_snoc] at hx
          cases hx
          cases hy
          exact e
theorem pow_long {b : List Int} (hn : Nf b) (hz : ∀ e, e ∈ b → e ≠ 0) (hb : b ≠ []) (k : Nat) : k ≤ (red (rep b k)).length := by
  cases k with
  | zero => exact Nat.zero_le _
  | succ k =>
    obtain ⟨c, m, s⟩ := spl_ex _ b (Nat.le_refl _) hn hz
    have hm := s.2.2 hb
    have e := red_pow (s.1 ▸ hn) hm.1 hm.2 k
    rw [← s.1] at e
    rw [e, List.length_append, List.length_append, rep_len]
    have := Nat.le_mul_of_pos_right (k + 1) (List.length_pos_iff.mpr hm.1)
    omega
end Rg

namespace N0
open PySem PySem.Spec PyProof.Rows L2 HT
/-! the least of a list of tuples of numbers -/
section
variable {K : PySem.W.Frag} {X : Cx}
def tupD (ns : List Int) : PyData := .tuple (ns.map .int)
def rMinT (K : PySem.W.Frag) : List V → Hp → VK → Prop := fun vs H Q => ∃ (a : Addr) (xs : List V) (ts : List (List Int)), vs = [V.ref a] ∧ SqL K H a xs ∧ DpAll K H xs (ts.map tupD) ∧ 0 < ts.length ∧
  ∀ (i : Nat) (v : V) (ns : List Int), xs[i]? = some v → ts[i]? = some ns → (∀ ms, ms ∈ ts → HT.lexLt ms ns = false) → Q v H
theorem listLt_lex : ∀ x y : List Int, PySem.W.listLt x y = HT.lexLt x y
  | [], [] => rfl
  | [], _ :: _ => rfl
  | _ :: _, [] => rfl
  | x :: xs, y :: ys => by
    show (if x = y then PySem.W.listLt xs ys else decide (x < y)) = if x = y then HT.lexLt xs ys else decide (x < y)
    rw [listLt_lex]
theorem minOf_spec {α : Type} [DecidableEq α] [PySem.W.DatumOrd α] : ∀ (x : α) (xs : List α), PySem.W.minOf x xs ∈ x :: xs := fun x xs => by
  unfold PySem.W.minOf
  induction xs generalizing x with
  | nil => exact List.mem_singleton_self x
  | cons y ys ih =>
    rw [List.foldl_cons]
    by_cases h : PySem.W.DatumOrd.lt y x = true
    · rw [if_pos h]
      exact List.mem_cons_of_mem _ (ih y)
    · rw [if_neg h]
      have := ih x
      rw [List.mem_cons] at this ⊢
      rcases this with q | q
      · exact .inl q
      · exact .inr (List.mem_cons_of_mem _ q)
theorem lex_irr : ∀ x : List Int, HT.lexLt x x = false
  | [] => rfl
  | x :: xs => by rw [HT.lexLt_cons, if_pos rfl, lex_irr]
theorem lex_asy : ∀ x y : List Int, HT.lexLt x y = true → HT.lexLt y x = false
  | [], [], h => by cases h
  | [], _ :: _, _ => rfl
  | _ :: _, [], h => by cases h
  | x :: xs, y :: ys, h => by
    rw [HT.lexLt_cons] at h ⊢
    by_cases q : x = y
    · rw [if_pos q] at h
      rw [if_pos q.symm]
      exact lex_asy xs ys h
    · rw [if_neg q] at h
      rw [if_neg (Ne.symm q)]
      have := of_decide_eq_true h
      exact decide_eq_false (by omega)
theorem lex_ntr : ∀ x y z : List Int, HT.lexLt x y = false → HT.lexLt y z = false → HT.lexLt x z = false
  | [], [], z, _, h => h
  | [], _ :: _, _, h, _ => by cases h
  | _ :: _, _, [], _, _ => rfl
  | _ :: _, [], _ :: _, _, h => by cases h
  | x :: xs, y :: ys, z :: zs, h1, h2 => by
    rw [HT.lexLt_cons] at h1 h2 ⊢
    by_cases q1 : x = y
    · rw [if_pos q1] at h1
      by_cases q2 : y = z
      · rw [if_pos q2] at h2
        rw [if_pos (q1.trans q2)]
        exact lex_ntr xs ys zs h1 h2
      · rw [if_neg q2] at h2
        subst q1
        rw [if_neg q2]
        exact h2
    · rw [if_neg q1] at h1
      have := of_decide_eq_false h1
      by_cases q2 : y = z
      · subst q2
        rw [if_neg q1]
        exact h1
      · rw [if_neg q2] at h2
        have := of_decide_eq_false h2
        rw [if_neg (by omega)]
        exact decide_eq_false (by omega)
theorem min_fold (lt : List Int → List Int → Bool) (hl : lt = HT.lexLt) : ∀ (x : List Int) (xs : List (List Int)), (∀ m, m ∈ x :: xs → HT.lexLt m (xs.foldl (fun a y => if lt y a = true then y else a) x) = false) := by
  subst hl
  intro x xs
  induction xs generalizing x with
  | nil =>
    intro m hm
    rw [List.mem_singleton] at hm
    subst hm
    exact lex_irr m
  | cons y ys ih =>
    intro m hm
    rw [List.foldl_cons]
    by_cases h : HT.lexLt y x = true
    · rw [if_pos h]
      rcases List.mem_cons.mp hm with q | q
      · subst q
        exact lex_ntr _ _ _ (lex_asy _ _ h) (ih y y List.mem_cons_self)
      · exact ih y m q
    · rw [if_neg h]
      have h : HT.lexLt y x = false := by cases e : HT.lexLt y x with | true => exact absurd e h | false => rfl
      rcases List.mem_cons.mp hm with q | q
      · subst q
        exact ih m m List.mem_cons_self
      · rcases List.mem_cons.mp q with q | q
        · subst q
          exact lex_ntr _ _ _ h (ih x x List.mem_cons_self)
        · exact ih x m (List.mem_cons_of_mem _ q)
theorem map_int_inj : ∀ x y : List Int, x.map PyData.int = y.map PyData.int → x = y
  | [], [], _ => rfl
  | [], _ :: _, h => nomatch h
  | _ :: _, [], h => nomatch h
  | x :: xs, y :: ys, h => by
    rw [List.map_cons, List.map_cons] at h
    injection h with h1 h2
    injection h1 with h3
    rw [h3, map_int_inj xs ys h2]
theorem minOf_items (x : List Int) (xs : List (List Int)) : (PySem.W.minOf (PySem.W.Tup.mk x) (xs.map PySem.W.Tup.mk)).items = xs.foldl (fun a y => if HT.lexLt y a = true then y else a) x := by
  unfold PySem.W.minOf
  induction xs generalizing x with
  | nil => rfl
  | cons y ys ih =>
    rw [List.map_cons, List.foldl_cons, List.foldl_cons]
    have e : PySem.W.DatumOrd.lt (PySem.W.Tup.mk y) (PySem.W.Tup.mk x) = HT.lexLt y x := listLt_lex y x
    rw [e]
    by_cases h : HT.lexLt y x = true
    · rw [if_pos h, if_pos h]; exact ih y
    · rw [if_neg h, if_neg h]; exact ih x
theorem canLay_tup (ns : List Int) : (tupD ns).canLay0 = true := canLay_ints ns
theorem vals_at : ∀ {xs : List V} {us : List Value} {i : Nat} {u : Value}, Vals xs us → us[i]? = some u → ∃ v, xs[i]? = some v ∧ RelV v u := fun {xs us i u} h hu => by
  induction h generalizing i with
  | nil => cases hu
  | cons r t ih =>
    cases i with
    | zero => cases hu; exact ⟨_, rfl, r⟩
    | succ i => exact ih hu
theorem cr_minT (hc : X.calm = true) (hu : X.A.units + 64 < cLine) : CallR X (.builtin "min") (rMinT X.K) := by
  intro pins s σ H vs us Q I r h
  obtain ⟨a, xs, ts, rfl, hs, hd, hp, q⟩ := h
  obtain ⟨its, rv, hl, _⟩ := I.list hs
  rw [Vals.ref1 r]
  obtain ⟨as, ra⟩ := Dp.readsAll I _ _ _ hd rv
  cases ts with
  | nil => exact absurd hp (Nat.lt_irrefl _)
  | cons t0 ts =>
    have e0 : (t0 :: ts).map tupD = ((PySem.W.Tup.mk t0) :: ts.map PySem.W.Tup.mk).map PySem.W.Datum.toD := by
      rw [List.map_cons, List.map_cons, List.map_map]
      rfl
    refine PySem.W.min_list_datum (α := PySem.W.Tup Int) (I.ok.hd hc) hl.isList ⟨as, by rw [← e0]; exact ra⟩ (by show X.A.units + 1 + (0 + 1) < cLine; omega) fun i v h' tk hi hv hk => ?_
    obtain ⟨y, hy, ry⟩ := vals_at rv (by rw [← Array.getElem?_toList] at hi; exact hi)
    obtain ⟨bs, rb, hlt, _, _⟩ := PySem.W.readsAll_atA (vs := its.toArray) ra i v hi
    obtain ⟨cs, rc⟩ := hv
    rw [List.length_map] at hlt
    have hg : ((t0 :: ts).map tupD).getD i .none = tupD ((t0 :: ts).getD i []) := by
      rw [List.getD_eq_getElem?_getD, List.getD_eq_getElem?_getD, List.getElem?_map, List.getElem?_eq_getElem hlt]
      rfl
    rw [hg] at rb
    have hu := PySem.SeqAt.Reads.unique _ _ v _ _ (canLay_tup _) (Reads.keeps hk rb) rc
    have hm := minOf_items t0 ts
    refine ⟨y, H, I.kept hk, ry, q i y ((t0 :: ts).getD i []) hy (by rw [List.getD_eq_getElem?_getD, List.getElem?_eq_getElem hlt]; rfl) fun ms hms => ?_⟩
    have he : (t0 :: ts).getD i [] = ts.foldl (fun a y => if HT.lexLt y a = true then y else a) t0 := by
      have h2 : tupD ((t0 :: ts).getD i []) = tupD (PySem.W.minOf (PySem.W.Tup.mk t0) (ts.map PySem.W.Tup.mk)).items := hu
      rw [hm] at h2
      injection h2 with h3
      exact map_int_inj _ _ h3
    rw [he]
    exact min_fold _ rfl t0 ts ms hms
theorem kcr_minT (hc : X.calm = true) (hu : X.A.units + 64 < cLine) (h : X.K = K := by rfl) : CallR X (.builtin "min") (rMinT K) := h ▸ cr_minT hc hu
end
end N0

namespace N0
open PySem PySem.Spec PyProof.Rows L2 HT
/-! displays of data, and statements that compare them -/
section
variable {K : PySem.W.Frag} {H H1 : Hp} {σ : L2.St}
theorem same_lst {a : Addr} {xs : List V} (e : Same H H1) (h : SqL K H a xs) : SqL K H1 a xs := (Rs.same (S := none) True.intro e).lst (fun q => nomatch q) h
mutual
theorem dp_same (e : Same H H1) : ∀ (d : PyData) (v : V), Dp K H v d → Dp K H1 v d
  | .none, _, .non => .non
  | .bool _, _, .bl b => .bl b
  | .int _, _, .int i => .int i
  | .str _, _, .str x => .str x
  | .list ds, _, .lst h t => .lst (same_lst e h) (dpa_same e ds _ t)
  | .tuple ds, _, .tup h t => .tup (same_tup e h) (dpa_same e ds _ t)
theorem dpa_same (e : Same H H1) : ∀ (ds : List PyData) (vs : List V), DpAll K H vs ds → DpAll K H1 vs ds
  | [], _, .nil => .nil
  | d :: ds, _, .cons h t => .cons (dp_same e d _ h) (dpa_same e ds _ t)
end
theorem dpa_len : ∀ {vs : List V} {ds : List PyData}, DpAll K H vs ds → vs.length = ds.length
  | _, _, .nil => rfl
  | _, _, .cons _ t => congrArg (· + 1) (dpa_len t)
theorem dp_int_inv {v : V} {i : Int} (h : Dp K H v (.int i)) : v = .int i := by cases h; rfl
theorem dpa_ints : ∀ {vs : List V} {ns : List Int}, DpAll K H vs (ns.map .int) → vs = ns.map V.int
  | vs, [], h => by cases h; rfl
  | vs, n :: ns, h => by
    cases h with
    | cons h t => rw [dp_int_inv h, dpa_ints t]; rfl
abbrev IsD (K : PySem.W.Frag) (d : PyData) : V → Hp → Prop := fun v H => Dp K H v d
def EvD (K : PySem.W.Frag) (ta : TA) (σ : L2.St) (H : Hp) (ds : List PyData) : Prop := ∀ H1, Same H H1 → ∀ Q : List V → Hp → Prop, (∀ vs H2, Same H1 H2 → DpAll K H2 vs ds → Q vs H2) → ta σ H1 Q
theorem ed0 : EvD K tNil σ H [] := fun H1 e Q q => q [] H1 (Same.refl _) .nil
theorem edc {te : TE} {ta : TA} {d : PyData} {ds : List PyData} (h : EvS te σ H (IsD K d)) (h2 : EvD K ta σ H ds) : EvD K (tCons te ta) σ H (d :: ds) := fun H1 e Q q =>
  h H1 e _ fun v H2 e2 hv => h2 H2 (Same.trans e e2) _ fun vs H3 e3 hvs => q _ _ (Same.trans e2 e3) (.cons (dp_same e3 _ _ hv) hvs)
theorem es_tup {ta : TA} {ds : List PyData} (h : EvD K ta σ H ds) (hl : ds.length ≤ 1000) : EvS (tTup ta) σ H (IsD K (.tuple ds)) := fun H1 e Q q =>
  h H1 e _ fun vs H2 e2 hvs => ⟨Nat.le_of_lt (small1000 (by rw [dpa_len hvs]; omega)), fun p hp => q _ _ (Same.trans e2 (new_same hp)) (.tup (tup_of upd_same) (dpa_same (new_same hp) _ _ hvs))⟩
theorem es_lst {ta : TA} {ds : List PyData} (h : EvD K ta σ H ds) (hl : ds.length ≤ 1000) : EvS (tLst ta) σ H (IsD K (.list ds)) := fun H1 e Q q =>
  h H1 e _ fun vs H2 e2 hvs => ⟨Nat.le_of_lt (small1000 (by rw [dpa_len hvs]; omega)), fun p hp => q _ _ (Same.trans e2 (new_same hp)) (.lst (lst_of upd_same) (dpa_same (new_same hp) _ _ hvs))⟩
theorem es_int (i : Int) : EvS (tC (.int i)) σ H (IsD K (.int i)) := evs_c fun _ _ => .int i
theorem es_bl (b : Bool) : EvS (tC (.bl b)) σ H (IsD K (.bool b)) := evs_c fun _ _ => .bl b
theorem es_neg (i : Int) : EvS (tUn (rU fun i => V.int (-i)) (tC (.int i))) σ H (IsD K (.int (-i))) := fun H1 e Q q => ⟨i, rfl, q _ _ (Same.refl _) (.int (-i))⟩
/-- a display of numbers is a row of numbers -/
theorem es_row {te : TE} (ns : List Int) (h : EvS te σ H (IsD K (.tuple (ns.map .int)))) : EvS te σ H (IsI K ns) := fun H1 e Q q => h H1 e _ fun v H2 e2 hv => by
  cases hv with
  | tup ha hd => rw [dpa_ints hd] at ha; exact q _ _ e2 ⟨_, rfl, ha⟩
theorem row_es {te : TE} {ns : List Int} (h : EvS te σ H (IsI K ns)) : EvS te σ H (IsD K (.tuple (ns.map .int))) := fun H1 e Q q => h H1 e _ fun v H2 e2 ⟨a, ev, ha⟩ => q v H2 e2 (ev ▸ dp_tup ha)
theorem es_var {i : Nat} {v : V} {d : PyData} (hv : σ[i]? = some (some v)) (h : Dp K H v d) : EvS (tVar i) σ H (IsD K d) := evs_var hv fun H1 e => dp_same e _ _ h
theorem ifne_seq {ta tb : TE} {t x : TS} {D : Ends} {d e : PyData} (h1 : EvS ta σ H (IsD K d)) (h2 : EvS tb σ H (IsD K e)) (s1 : SeqAt.shaped d = true) (s2 : SeqAt.shaped e = true) (he : PyData.eqv d e = true) (rest : ∀ H', Same H H' → x D σ H') :
    tSeq (tIfS (tTest (tOp (rNeD K) ta tb)) t tNext) x D σ H :=
  h1 H (Same.refl _) _ fun v H1 e1 hv => h2 H1 e1 _ fun u H2 e2 hu => ⟨d, e, dp_same e2 _ _ hv, hu, s1, s2, _, rfl, by rw [he]; exact rest _ (Same.trans e1 e2)⟩
theorem ifne2_seq {ta tb tc td : TE} {t x : TS} {D : Ends} {d e d' e' : PyData} (h1 : EvS ta σ H (IsD K d)) (h2 : EvS tb σ H (IsD K e)) (s1 : SeqAt.shaped d = true) (s2 : SeqAt.shaped e = true) (he : PyData.eqv d e = true)
    (g1 : EvS tc σ H (IsD K d')) (g2 : EvS td σ H (IsD K e')) (q1 : SeqAt.shaped d' = true) (q2 : SeqAt.shaped e' = true) (qe : PyData.eqv d' e' = true) (rest : ∀ H', Same H H' → x D σ H') :
    tSeq (tIfS (tOr (tTest (tOp (rNeD K) ta tb)) (tTest (tOp (rNeD K) tc td))) t tNext) x D σ H :=
  h1 H (Same.refl _) _ fun v H1 e1 hv => h2 H1 e1 _ fun u H2 e2 hu => ⟨d, e, dp_same e2 _ _ hv, hu, s1, s2, _, rfl, by
    rw [he]
    exact g1 H2 (Same.trans e1 e2) _ fun v' H3 e3 hv' => g2 H3 (Same.trans (Same.trans e1 e2) e3) _ fun u' H4 e4 hu' => ⟨d', e', dp_same e4 _ _ hv', hu', q1, q2, _, rfl, by rw [qe]; exact rest _ (Same.trans (Same.trans (Same.trans e1 e2) e3) e4)⟩⟩
theorem asg_seq {te : TE} {i : Nat} {x : TS} {D : Ends} {P : V → Hp → Prop} (h : EvS te σ H P) (rest : ∀ v H', Same H H' → P v H' → x D (σ.set i (some v)) H') : tSeq (tAsg te (gName i)) x D σ H :=
  h H (Same.refl _) _ fun v H1 e1 hv => rest v H1 e1 hv
/-- a condition of which it is known what it gives -/
def EvB (t : TT) (σ : L2.St) (H : Hp) (b : Bool) : Prop := ∀ H1, Same H H1 → ∀ Q : Bool → Hp → Prop, (∀ H2, Same H1 H2 → Q b H2) → t σ H1 Q
theorem ifno_seq {c : TT} {t x : TS} {D : Ends} (h : EvB c σ H false) (rest : ∀ H', Same H H' → x D σ H') : tSeq (tIfS c t tNext) x D σ H := h H (Same.refl _) _ fun H2 e => rest H2 e
theorem eb_or {c d : TT} (h : EvB c σ H false) (g : EvB d σ H false) : EvB (tOr c d) σ H false := fun H1 e Q q => h H1 e _ fun H2 e2 => g H2 (Same.trans e e2) _ fun H3 e3 => q H3 (Same.trans e2 e3)
theorem eb_b {te : TE} {b : Bool} (h : EvS te σ H fun v _ => v = .bl b) : EvB (tB te) σ H b := fun H1 e Q q => h H1 e _ fun v H2 e2 ev => ⟨b, ev, q H2 e2⟩
theorem knotIn {X : Cx} (h : X.K = K := by rfl) : OpR X (compareOp .NotIn) (rIn K true) := h ▸ op_notIn_seq
end
end N0

namespace Pr
open PySem L2 N0
/-! ### the text by places -/
def topS (i : Nat) : Stmt := PySem.Challenge.pw_noroadback_k01_whole_roots_and_words_tha.main.body.getD i (.Pass ⟨0, 0, 0, 0⟩)
abbrev st_is_integer : Stmt := topS 1
abbrev nm_is_integer : List Str := ["value"]
theorem sc_is_integer : FnScope nm_is_integer ["value"] (defScope st_is_integer) := ⟨rfl, rfl, rfl, by decide +kernel, rfl, by decide +kernel, by decide +kernel⟩
abbrev st_is_within : Stmt := topS 2
abbrev nm_is_within : List Str := ["value", "least", "most"]
theorem sc_is_within : FnScope nm_is_within ["value", "least", "most"] (defScope st_is_within) := ⟨rfl, rfl, rfl, by decide +kernel, rfl, by decide +kernel, by decide +kernel⟩
abbrev st_reduced : Stmt := topS 4
abbrev nm_reduced : List Str := ["row", "kept", "entry"]
theorem sc_reduced : FnScope nm_reduced ["row"] (defScope st_reduced) := ⟨rfl, rfl, rfl, by decide +kernel, rfl, by decide +kernel, by decide +kernel⟩
abbrev st_is_reduced : Stmt := topS 5
abbrev nm_is_reduced : List Str := ["row", "place"]
theorem sc_is_reduced : FnScope nm_is_reduced ["row"] (defScope st_is_reduced) := ⟨rfl, rfl, rfl, by decide +kernel, rfl, by decide +kernel, by decide +kernel⟩
abbrev st_product_of : Stmt := topS 6
abbrev nm_product_of : List Str := ["rows", "row", "entry"]
theorem sc_product_of : FnScope nm_product_of ["rows"] (defScope st_product_of) := ⟨rfl, rfl, rfl, by decide +kernel, rfl, by decide +kernel, by decide +kernel⟩
abbrev st_opposite : Stmt := topS 7
abbrev nm_opposite : List Str := ["row", "entry"]
theorem sc_opposite : FnScope nm_opposite ["row"] (defScope st_opposite) := ⟨rfl, rfl, rfl, by decide +kernel, rfl, by decide +kernel, by decide +kernel⟩
abbrev st_split_core : Stmt := topS 8
abbrev nm_split_core : List Str := ["row", "size", "depth"]
theorem sc_split_core : FnScope nm_split_core ["row"] (defScope st_split_core) := ⟨rfl, rfl, rfl, by decide +kernel, rfl, by decide +kernel, by decide +kernel⟩
abbrev st_repeated : Stmt := topS 9
abbrev nm_repeated : List Str := ["row", "many", "head", "middle"]
theorem sc_repeated : FnScope nm_repeated ["row", "many"] (defScope st_repeated) := ⟨rfl, rfl, rfl, by decide +kernel, rfl, by decide +kernel, by decide +kernel⟩
abbrev st_is_repeated : Stmt := topS 10
abbrev nm_is_repeated : List Str := ["row", "base", "many"]
theorem sc_is_repeated : FnScope nm_is_repeated ["row", "base", "many"] (defScope st_is_repeated) := ⟨rfl, rfl, rfl, by decide +kernel, rfl, by decide +kernel, by decide +kernel⟩
abbrev st_least_period : Stmt := topS 11
abbrev nm_least_period : List Str := ["row", "size", "period"]
theorem sc_least_period : FnScope nm_least_period ["row"] (defScope st_least_period) := ⟨rfl, rfl, rfl, by decide +kernel, rfl, by decide +kernel, by decide +kernel⟩
abbrev st_root_of : Stmt := topS 12
abbrev nm_root_of : List Str := ["row", "head", "middle", "period"]
theorem sc_root_of : FnScope nm_root_of ["row"] (defScope st_root_of) := ⟨rfl, rfl, rfl, by decide +kernel, rfl, by decide +kernel, by decide +kernel⟩
abbrev st_check_letters : Stmt := topS 24
abbrev nm_check_letters : List Str := ["letters"]
theorem sc_check_letters : FnScope nm_check_letters ["letters"] (defScope st_check_letters) := ⟨rfl, rfl, rfl, by decide +kernel, rfl, by decide +kernel, by decide +kernel⟩
abbrev st_check_word : Stmt := topS 25
abbrev nm_check_word : List Str := ["letters", "word"]
theorem sc_check_word : FnScope nm_check_word ["letters", "word"] (defScope st_check_word) := ⟨rfl, rfl, rfl, by decide +kernel, rfl, by decide +kernel, by decide +kernel⟩
abbrev st_check_words : Stmt := topS 26
abbrev nm_check_words : List Str := ["letters", "words", "word"]
theorem sc_check_words : FnScope nm_check_words ["letters", "words"] (defScope st_check_words) := ⟨rfl, rfl, rfl, by decide +kernel, rfl, by decide +kernel, by decide +kernel⟩
abbrev st_is_row : Stmt := topS 27
abbrev nm_is_row : List Str := ["letters", "value", "most", "entry"]
theorem sc_is_row : FnScope nm_is_row ["letters", "value", "most"] (defScope st_is_row) := ⟨rfl, rfl, rfl, by decide +kernel, rfl, by decide +kernel, by decide +kernel⟩
abbrev st_is_bare_row : Stmt := topS 28
abbrev nm_is_bare_row : List Str := ["letters", "value", "most"]
theorem sc_is_bare_row : FnScope nm_is_bare_row ["letters", "value", "most"] (defScope st_is_bare_row) := ⟨rfl, rfl, rfl, by decide +kernel, rfl, by decide +kernel, by decide +kernel⟩
abbrev st_product : Stmt := topS 29
abbrev nm_product : List Str := ["letters", "words"]
theorem sc_product : FnScope nm_product ["letters", "words"] (defScope st_product) := ⟨rfl, rfl, rfl, by decide +kernel, rfl, by decide +kernel, by decide +kernel⟩
abbrev st_power : Stmt := topS 30
abbrev nm_power : List Str := ["letters", "word", "many"]
theorem sc_power : FnScope nm_power ["letters", "word", "many"] (defScope st_power) := ⟨rfl, rfl, rfl, by decide +kernel, rfl, by decide +kernel, by decide +kernel⟩
abbrev st_root : Stmt := topS 31
abbrev nm_root : List Str := ["letters", "word"]
theorem sc_root : FnScope nm_root ["letters", "word"] (defScope st_root) := ⟨rfl, rfl, rfl, by decide +kernel, rfl, by decide +kernel, by decide +kernel⟩
abbrev st_common_root : Stmt := topS 32
abbrev nm_common_root : List Str := ["letters", "one", "other", "first", "second", "base"]
theorem sc_common_root : FnScope nm_common_root ["letters", "one", "other"] (defScope st_common_root) := ⟨rfl, rfl, rfl, by decide +kernel, rfl, by decide +kernel, by decide +kernel⟩
abbrev st_exponent_of : Stmt := topS 33
abbrev nm_exponent_of : List Str := ["base", "word", "found", "many"]
theorem sc_exponent_of : FnScope nm_exponent_of ["base", "word"] (defScope st_exponent_of) := ⟨rfl, rfl, rfl, by decide +kernel, rfl, by decide +kernel, by decide +kernel⟩
abbrev st_is_common_root : Stmt := topS 34
abbrev nm_is_common_root : List Str := ["letters", "one", "other", "value"]
theorem sc_is_common_root : FnScope nm_is_common_root ["letters", "one", "other", "value"] (defScope st_is_common_root) := ⟨rfl, rfl, rfl, by decide +kernel, rfl, by decide +kernel, by decide +kernel⟩
abbrev st_is_root_paper : Stmt := topS 35
abbrev nm_is_root_paper : List Str := ["letters", "one", "other", "value"]
theorem sc_is_root_paper : FnScope nm_is_root_paper ["letters", "one", "other", "value"] (defScope st_is_root_paper) := ⟨rfl, rfl, rfl, by decide +kernel, rfl, by decide +kernel, by decide +kernel⟩
abbrev st_is_unlike_paper : Stmt := topS 36
abbrev nm_is_unlike_paper : List Str := ["letters", "one", "other", "value", "first", "second", "row"]
theorem sc_is_unlike_paper : FnScope nm_is_unlike_paper ["letters", "one", "other", "value"] (defScope st_is_unlike_paper) := ⟨rfl, rfl, rfl, by decide +kernel, rfl, by decide +kernel, by decide +kernel⟩
abbrev st__law_sack : Stmt := topS 38
abbrev nm__law_sack : List Str := ["script", "spot", "cell", "great"]
theorem sc__law_sack : FnScope nm__law_sack ["script", "spot"] (defScope st__law_sack) := ⟨rfl, rfl, rfl, by decide +kernel, rfl, by decide +kernel, by decide +kernel⟩
abbrev st__law_drawn : Stmt := topS 39
abbrev nm__law_drawn : List Str := ["sack", "total", "found", "one", "two"]
theorem sc__law_drawn : FnScope nm__law_drawn ["sack", "total"] (defScope st__law_drawn) := ⟨rfl, rfl, rfl, by decide +kernel, rfl, by decide +kernel, by decide +kernel⟩
abbrev st__law_bare : Stmt := topS 40
abbrev nm__law_bare : List Str := ["row", "found", "entry"]
theorem sc__law_bare : FnScope nm__law_bare ["row"] (defScope st__law_bare) := ⟨rfl, rfl, rfl, by decide +kernel, rfl, by decide +kernel, by decide +kernel⟩
abbrev st__law_back : Stmt := topS 41
abbrev nm__law_back : List Str := ["word", "entry"]
theorem sc__law_back : FnScope nm__law_back ["word"] (defScope st__law_back) := ⟨rfl, rfl, rfl, by decide +kernel, rfl, by decide +kernel, by decide +kernel⟩
abbrev st__law_core : Stmt := topS 42
abbrev nm__law_core : List Str := ["word", "found", "turn"]
theorem sc__law_core : FnScope nm__law_core ["word"] (defScope st__law_core) := ⟨rfl, rfl, rfl, by decide +kernel, rfl, by decide +kernel, by decide +kernel⟩
abbrev st__law_word : Stmt := topS 43
abbrev nm__law_word : List Str := ["sack", "letters", "most", "row", "turn"]
theorem sc__law_word : FnScope nm__law_word ["sack", "letters", "most"] (defScope st__law_word) := ⟨rfl, rfl, rfl, by decide +kernel, rfl, by decide +kernel, by decide +kernel⟩
abbrev st__law_powered : Stmt := topS 44
abbrev nm__law_powered : List Str := ["word", "many", "row", "turn"]
theorem sc__law_powered : FnScope nm__law_powered ["word", "many"] (defScope st__law_powered) := ⟨rfl, rfl, rfl, by decide +kernel, rfl, by decide +kernel, by decide +kernel⟩
abbrev st__law_root : Stmt := topS 45
abbrev nm__law_root : List Str := ["word", "core", "ahead", "size"]
theorem sc__law_root : FnScope nm__law_root ["word"] (defScope st__law_root) := ⟨rfl, rfl, rfl, by decide +kernel, rfl, by decide +kernel, by decide +kernel⟩
abbrev st__law_is_word : Stmt := topS 46
abbrev nm__law_is_word : List Str := ["letters", "value", "one"]
theorem sc__law_is_word : FnScope nm__law_is_word ["letters", "value"] (defScope st__law_is_word) := ⟨rfl, rfl, rfl, by decide +kernel, rfl, by decide +kernel, by decide +kernel⟩
abbrev st__law_is_due : Stmt := topS 47
abbrev nm__law_is_due : List Str := ["letters", "one", "other", "value", "due", "entry"]
theorem sc__law_is_due : FnScope nm__law_is_due ["letters", "one", "other", "value"] (defScope st__law_is_due) := ⟨rfl, rfl, rfl, by decide +kernel, rfl, by decide +kernel, by decide +kernel⟩
abbrev st__law_near : Stmt := topS 48
abbrev nm__law_near : List Str := ["one", "other", "told", "both", "found"]
theorem sc__law_near : FnScope nm__law_near ["one", "other", "told"] (defScope st__law_near) := ⟨rfl, rfl, rfl, by decide +kernel, rfl, by decide +kernel, by decide +kernel⟩
abbrev st__law_two : Stmt := topS 49
abbrev nm__law_two : List Str := ["sack", "letters", "base", "by", "one", "other"]
theorem sc__law_two : FnScope nm__law_two ["sack", "letters"] (defScope st__law_two) := ⟨rfl, rfl, rfl, by decide +kernel, rfl, by decide +kernel, by decide +kernel⟩
abbrev st__law_right : Stmt := topS 50
abbrev nm__law_right : List Str := ["sack", "letters", "one", "other", "word", "told", "are_equal", "value"]
theorem sc__law_right : FnScope nm__law_right ["sack"] (defScope st__law_right) := ⟨rfl, rfl, rfl, by decide +kernel, rfl, by decide +kernel, by decide +kernel⟩
abbrev st_law : Stmt := topS 51
abbrev nm_law : List Str := ["script", "spot", "told"]
theorem sc_law : FnScope nm_law ["script"] (defScope st_law) := ⟨rfl, rfl, rfl, by decide +kernel, rfl, by decide +kernel, by decide +kernel⟩
/-- what the top leaves -/
structure Txt (K : PySem.W.Frag) (mg : Str → Option Value) : Prop where
  f_is_integer : ∃ (f : Addr) (fd : FuncData), Fun K "is_integer" "is_integer" st_is_integer f fd ∧ mg "is_integer" = some (.ref f) ∧ Binds K fd ["value"] []
  f_is_within : ∃ (f : Addr) (fd : FuncData), Fun K "is_within" "is_within" st_is_within f fd ∧ mg "is_within" = some (.ref f) ∧ Binds K fd ["value", "least", "most"] []
  f_reduced : ∃ (f : Addr) (fd : FuncData), Fun K "reduced" "reduced" st_reduced f fd ∧ mg "reduced" = some (.ref f) ∧ Binds K fd ["row"] []
  f_is_reduced : ∃ (f : Addr) (fd : FuncData), Fun K "is_reduced" "is_reduced" st_is_reduced f fd ∧ mg "is_reduced" = some (.ref f) ∧ Binds K fd ["row"] []
  f_product_of : ∃ (f : Addr) (fd : FuncData), Fun K "product_of" "product_of" st_product_of f fd ∧ mg "product_of" = some (.ref f) ∧ Binds K fd ["rows"] []
  f_opposite : ∃ (f : Addr) (fd : FuncData), Fun K "opposite" "opposite" st_opposite f fd ∧ mg "opposite" = some (.ref f) ∧ Binds K fd ["row"] []
  f_split_core : ∃ (f : Addr) (fd : FuncData), Fun K "split_core" "split_core" st_split_core f fd ∧ mg "split_core" = some (.ref f) ∧ Binds K fd ["row"] []
  f_repeated : ∃ (f : Addr) (fd : FuncData), Fun K "repeated" "repeated" st_repeated f fd ∧ mg "repeated" = some (.ref f) ∧ Binds K fd ["row", "many"] []
  f_is_repeated : ∃ (f : Addr) (fd : FuncData), Fun K "is_repeated" "is_repeated" st_is_repeated f fd ∧ mg "is_repeated" = some (.ref f) ∧ Binds K fd ["row", "base", "many"] []
  f_least_period : ∃ (f : Addr) (fd : FuncData), Fun K "least_period" "least_period" st_least_period f fd ∧ mg "least_period" = some (.ref f) ∧ Binds K fd ["row"] []
  f_root_of : ∃ (f : Addr) (fd : FuncData), Fun K "root_of" "root_of" st_root_of f fd ∧ mg "root_of" = some (.ref f) ∧ Binds K fd ["row"] []
  f_check_letters : ∃ (f : Addr) (fd : FuncData), Fun K "check_letters" "check_letters" st_check_letters f fd ∧ mg "check_letters" = some (.ref f) ∧ Binds K fd ["letters"] []
  f_check_word : ∃ (f : Addr) (fd : FuncData), Fun K "check_word" "check_word" st_check_word f fd ∧ mg "check_word" = some (.ref f) ∧ Binds K fd ["letters", "word"] []
  f_check_words : ∃ (f : Addr) (fd : FuncData), Fun K "check_words" "check_words" st_check_words f fd ∧ mg "check_words" = some (.ref f) ∧ Binds K fd ["letters", "words"] []
  f_is_row : ∃ (f : Addr) (fd : FuncData), Fun K "is_row" "is_row" st_is_row f fd ∧ mg "is_row" = some (.ref f) ∧ Binds K fd ["letters", "value", "most"] []
  f_is_bare_row : ∃ (f : Addr) (fd : FuncData), Fun K "is_bare_row" "is_bare_row" st_is_bare_row f fd ∧ mg "is_bare_row" = some (.ref f) ∧ Binds K fd ["letters", "value", "most"] []
  f_product : ∃ (f : Addr) (fd : FuncData), Fun K "product" "product" st_product f fd ∧ mg "product" = some (.ref f)
  f_power : ∃ (f : Addr) (fd : FuncData), Fun K "power" "power" st_power f fd ∧ mg "power" = some (.ref f) ∧ Binds K fd ["letters", "word", "many"] []
  f_root : ∃ (f : Addr) (fd : FuncData), Fun K "root" "root" st_root f fd ∧ mg "root" = some (.ref f) ∧ Binds K fd ["letters", "word"] []
  f_common_root : ∃ (f : Addr) (fd : FuncData), Fun K "common_root" "common_root" st_common_root f fd ∧ mg "common_root" = some (.ref f) ∧ Binds K fd ["letters", "one", "other"] []
  f_exponent_of : ∃ (f : Addr) (fd : FuncData), Fun K "exponent_of" "exponent_of" st_exponent_of f fd ∧ mg "exponent_of" = some (.ref f) ∧ Binds K fd ["base", "word"] []
  f_is_common_root : ∃ (f : Addr) (fd : FuncData), Fun K "is_common_root" "is_common_root" st_is_common_root f fd ∧ mg "is_common_root" = some (.ref f) ∧ Binds K fd ["letters", "one", "other", "value"] []
  f_is_root_paper : ∃ (f : Addr) (fd : FuncData), Fun K "is_root_paper" "is_root_paper" st_is_root_paper f fd ∧ mg "is_root_paper" = some (.ref f) ∧ Binds K fd ["letters", "one", "other", "value"] []
  f_is_unlike_paper : ∃ (f : Addr) (fd : FuncData), Fun K "is_unlike_paper" "is_unlike_paper" st_is_unlike_paper f fd ∧ mg "is_unlike_paper" = some (.ref f) ∧ Binds K fd ["letters", "one", "other", "value"] []
  f__law_sack : ∃ (f : Addr) (fd : FuncData), Fun K "_law_sack" "_law_sack" st__law_sack f fd ∧ mg "_law_sack" = some (.ref f) ∧ Binds K fd ["script", "spot"] []
  f__law_drawn : ∃ (f : Addr) (fd : FuncData), Fun K "_law_drawn" "_law_drawn" st__law_drawn f fd ∧ mg "_law_drawn" = some (.ref f) ∧ Binds K fd ["sack", "total"] []
  f__law_bare : ∃ (f : Addr) (fd : FuncData), Fun K "_law_bare" "_law_bare" st__law_bare f fd ∧ mg "_law_bare" = some (.ref f) ∧ Binds K fd ["row"] []
  f__law_back : ∃ (f : Addr) (fd : FuncData), Fun K "_law_back" "_law_back" st__law_back f fd ∧ mg "_law_back" = some (.ref f) ∧ Binds K fd ["word"] []
  f__law_core : ∃ (f : Addr) (fd : FuncData), Fun K "_law_core" "_law_core" st__law_core f fd ∧ mg "_law_core" = some (.ref f) ∧ Binds K fd ["word"] []
  f__law_word : ∃ (f : Addr) (fd : FuncData), Fun K "_law_word" "_law_word" st__law_word f fd ∧ mg "_law_word" = some (.ref f) ∧ Binds K fd ["sack", "letters", "most"] []
  f__law_powered : ∃ (f : Addr) (fd : FuncData), Fun K "_law_powered" "_law_powered" st__law_powered f fd ∧ mg "_law_powered" = some (.ref f) ∧ Binds K fd ["word", "many"] []
  f__law_root : ∃ (f : Addr) (fd : FuncData), Fun K "_law_root" "_law_root" st__law_root f fd ∧ mg "_law_root" = some (.ref f) ∧ Binds K fd ["word"] []
  f__law_is_word : ∃ (f : Addr) (fd : FuncData), Fun K "_law_is_word" "_law_is_word" st__law_is_word f fd ∧ mg "_law_is_word" = some (.ref f) ∧ Binds K fd ["letters", "value"] []
  f__law_is_due : ∃ (f : Addr) (fd : FuncData), Fun K "_law_is_due" "_law_is_due" st__law_is_due f fd ∧ mg "_law_is_due" = some (.ref f) ∧ Binds K fd ["letters", "one", "other", "value"] []
  f__law_near : ∃ (f : Addr) (fd : FuncData), Fun K "_law_near" "_law_near" st__law_near f fd ∧ mg "_law_near" = some (.ref f) ∧ Binds K fd ["one", "other", "told"] []
  f__law_two : ∃ (f : Addr) (fd : FuncData), Fun K "_law_two" "_law_two" st__law_two f fd ∧ mg "_law_two" = some (.ref f) ∧ Binds K fd ["sack", "letters"] []
  f__law_right : ∃ (f : Addr) (fd : FuncData), Fun K "_law_right" "_law_right" st__law_right f fd ∧ mg "_law_right" = some (.ref f) ∧ Binds K fd ["sack"] []
  c_MAX_LETTERS : ∃ t : Tok, mg "MAX_LETTERS" = some (.int 5 t)
  c_MAX_WORD : ∃ t : Tok, mg "MAX_WORD" = some (.int 200 t)
  c_MOST_POWER : ∃ t : Tok, mg "MOST_POWER" = some (.int 50 t)
  c_MOST_MULTIPLIED : ∃ t : Tok, mg "MOST_MULTIPLIED" = some (.int 50 t)
  n_abs : mg "abs" = none
  n_all : mg "all" = none
  n_bool : mg "bool" = none
  n_int : mg "int" = none
  n_isinstance : mg "isinstance" = none
  n_len : mg "len" = none
  n_list : mg "list" = none
  n_max : mg "max" = none
  n_min : mg "min" = none
  n_range : mg "range" = none
  n_str : mg "str" = none
  n_tuple : mg "tuple" = none
section
variable {P : Program} {w : World} {K : PySem.W.Frag} {mg : Str → Option Value} {base : Heap}
/-! is_integer, is_within -/
def spIsInt (K : PySem.W.Frag) : Sp := fun vs H Q _ => ∃ v o, vs = [v] ∧ En K H v o ∧ Q (.bl o.isSome) H
theorem ok_is_integer {f : Addr} {fd : FuncData} (F : Fun K "is_integer" "is_integer" st_is_integer f fd) (T : Txt K mg) : FnOk P w K mg base CX0 1 f fd ["value"] (spIsInt K) := by
  refine F.ok sc_is_integer (fun vs H Q E h => ?_) (fun cdv A outer s H vs Q E hr h => ?_)
  · obtain ⟨v, o, rfl, _⟩ := h
    rfl
  · obtain ⟨v, o, rfl, en, k⟩ := h
    refine ⟨_, (pss_one (ps_ret (pe_and (pe_callB (kcall_isi (K := K)) (by rfl) T.n_isinstance bo_isinstance (pa_cons (pv 0) (pa_cons (pe_bltn (by rfl) T.n_int bo_int rel_ty) pa_nil))) (pe_one (pe_not (pe_callB (kcall_isi (K := K)) (by rfl) T.n_isinstance bo_isinstance (pa_cons (pv 0) (pa_cons (pe_bltn (by rfl) T.n_bool bo_bool rel_ty) pa_nil)))))))), ?_⟩
    have key : ∀ (t : String) (i b : Bool), TyX K H v (.type t) → kitB t "int" = some i → kitB t "bool" = some b → (i && !b) = o.isSome →
        ∃ v1, (start nm_is_integer [v])[0]? = some (some v1) ∧ rIsi K [v1, .ty "int"] H fun x H1 => ∃ c, x = .bl c ∧ if c = true then (∃ v2, (start nm_is_integer [v])[0]? = some (some v2) ∧ rIsi K [v2, .ty "bool"] H1 fun x H1 => ∃ c, x = .bl c ∧ Q (.bl (!c)) H1) else Q (.bl false) H1 := fun t i b h k1 k2 e => by
      refine ⟨v, rfl, v, _, _, _, i, rfl, .ty _, h, kit_ty k1, i, rfl, ?_⟩
      cases i with
      | false =>
        rw [show o.isSome = false from e.symm] at k
        exact iteF k
      | true => exact iteT ⟨v, rfl, v, _, _, _, b, rfl, .ty _, h, kit_ty k2, b, rfl, by rw [show (!b) = o.isSome from e]; exact k⟩
    cases en with
    | int i => exact key "int" true false (.base (.int i)) (by decide +kernel) (by decide +kernel) rfl
    | oth h k1 k2 k3 => exact key _ _ _ h k1 k2 k3
theorem cl_is_integer (T : Txt K mg) : Cl P w K mg base 1 "is_integer" (spIsInt K) := by
  obtain ⟨f, fd, F, hm, hb⟩ := T.f_is_integer
  exact cl_of (ok_is_integer F T) hm F.kp hb
def spWithin : Sp := fun vs H Q _ => ∃ v l m : Int, vs = [.int v, .int l, .int m] ∧ Q (.bl (decide (l ≤ v ∧ v ≤ m))) H
theorem ok_is_within {f : Addr} {fd : FuncData} (F : Fun K "is_within" "is_within" st_is_within f fd) (T : Txt K mg) : FnOk P w K mg base CX0 2 f fd ["value", "least", "most"] spWithin := by
  have c_is_integer : Cl P w K mg base 1 "is_integer" (spIsInt K) := cl_is_integer T
  refine F.ok sc_is_within (fun vs H Q E h => ?_) (fun cdv A outer s H vs Q E hr h => ?_)
  · obtain ⟨v, l, m, rfl, _⟩ := h
    rfl
  · obtain ⟨v, l, m, rfl, k⟩ := h
    refine ⟨_, (pss_one (ps_ret (pe_and (pe_f c_is_integer hr (by decide) rfl (pa_cons (pv 0) pa_nil)) (pe_one (pe_chain op_le op_le (pv 1) (pv 0) (pv 2)))))), ?_⟩
    refine ⟨.int v, rfl, .int v, some v, rfl, .int v, true, rfl, iteT ⟨.int l, rfl, .int v, rfl, l, v, rfl, rfl, _, rfl, ?_⟩⟩
    refine ite2 (fun h1 => ⟨.int m, rfl, v, m, rfl, rfl, ?_⟩) fun h1 => ?_
    · have h1 := of_decide_eq_true h1
      have e : decide (l ≤ v ∧ v ≤ m) = decide (v ≤ m) := by simp [h1]
      rw [e] at k
      exact k
    · have h1 : ¬ l ≤ v := fun q => h1 (decide_eq_true q)
      have e : decide (l ≤ v ∧ v ≤ m) = false := by simp [h1]
      rw [e] at k
      exact k
theorem cl_is_within (T : Txt K mg) : Cl P w K mg base 2 "is_within" spWithin := by
  obtain ⟨f, fd, F, hm, hb⟩ := T.f_is_within
  exact cl_of (ok_is_within F T) hm F.kp hb
def spChkLetters : Sp := fun vs H Q _ => ∃ n : Int, vs = [.int n] ∧ 1 ≤ n ∧ n ≤ 5 ∧ Q .non H
theorem ok_check_letters {f : Addr} {fd : FuncData} (F : Fun K "check_letters" "check_letters" st_check_letters f fd) (T : Txt K mg) : FnOk P w K mg base CX0 3 f fd ["letters"] spChkLetters := by
  have c_is_within : Cl P w K mg base 2 "is_within" spWithin := cl_is_within T
  refine F.ok sc_check_letters (fun vs H Q E h => ?_) (fun cdv A outer s H vs Q E hr h => ?_)
  · obtain ⟨n, rfl, _⟩ := h
    rfl
  · obtain ⟨n, rfl, h1, h2, k⟩ := h
    refine ⟨_, (pss_one (ps_if (pt_not (pt_val (pe_f c_is_within hr (by decide) rfl (pa_cons (pv 0) (pa_cons pe_int (pa_cons (pe_glob rfl T.c_MAX_LETTERS.choose_spec rel_int) pa_nil)))))) (pss_one ps_never) pss_nil)), ?_⟩
    refine ⟨.int n, rfl, n, 1, 5, rfl, _, rfl, ?_⟩
    rw [decide_eq_true (show 1 ≤ n ∧ n ≤ 5 from ⟨h1, h2⟩)]
    exact iteF k
theorem cl_check_letters (T : Txt K mg) : Cl P w K mg base 3 "check_letters" spChkLetters := by
  obtain ⟨f, fd, F, hm, hb⟩ := T.f_check_letters
  exact cl_of (ok_check_letters F T) hm F.kp hb
def rowV (n m : Int) : Option (List (Option Int)) → Bool
  | some os => rowB n m os
  | none => false
def spIsRow (K : PySem.W.Frag) : Sp := fun vs H Q _ => ∃ (n m : Int) (v : V) (o : Option (List (Option Int))), vs = [.int n, v, .int m] ∧ m ≤ 1000 ∧ Va K H v o ∧ ∀ H', Same H H' → Q (.bl (rowV n m o)) H'
theorem ok_is_row {f : Addr} {fd : FuncData} (F : Fun K "is_row" "is_row" st_is_row f fd) (T : Txt K mg) : FnOk P w K mg base CX0 2 f fd ["letters", "value", "most"] (spIsRow K) := by
  have c_is_integer : Cl P w K mg base 1 "is_integer" (spIsInt K) := cl_is_integer T
  refine F.ok sc_is_row (fun vs H Q E h => ?_) (fun cdv A outer s H vs Q E hr h => ?_)
  · obtain ⟨n, m, v, o, rfl, _⟩ := h
    rfl
  · obtain ⟨n, m, v, o, rfl, hm, va, k⟩ := h
    refine ⟨_, (pss_cons (ps_if (PW.pt (pw_or (pt_not (pt_val (pe_callB (kcall_isi (K := K)) (by rfl) T.n_isinstance bo_isinstance (pa_cons (pv 1) (pa_cons (pe_bltn (by rfl) T.n_tuple bo_tuple rel_ty) pa_nil))))) (pw_or1 (pt_cmpR op_gt (pe_callB (kcall_len (K := K)) (by rfl) T.n_len bo_len (pa_cons (pv 1) pa_nil)) (pv 2) (nomark _))))) (pss_one (ps_ret pe_bl)) pss_nil) (pss_one (ps_ret (pe_callB (kcr_all (K := K) rfl) (by rfl) T.n_all bo_all (pa_cons (pe_lc (own := [("entry", 3)]) rfl sc_is_row.nd (kpi_tup (K := K) (pv 1)) (blkOk_by (N := nm_is_row) (sc := defScope st_is_row) (by decide +kernel)) (fun _ _ _ _ _ => (pg_name (i := 3) sc_is_row.nd rfl (by first | exact Or.inl rfl | exact Or.inr rfl))) (fun _ _ _ _ _ => pts_nil) (fun _ _ _ _ _ => (pe_and (pe_f c_is_integer hr (by decide) rfl (pa_cons (pv 3) pa_nil)) (pe_one (pe_chain op_le op_le pe_int (pe_callB call_abs (by rfl) T.n_abs bo_abs (pa_cons (pv 3) pa_nil)) (pv 0)))))) pa_nil))))), ?_⟩
    cases va with
    | oth h kt =>
      refine ⟨v, rfl, v, _, _, _, false, rfl, .ty _, h, kit_ty kt, false, rfl, ?_⟩
      exact iteT (iteT (k _ (Same.refl _)))
    | @tup a xs os h hl he =>
      refine ⟨.ref a, rfl, .ref a, _, _, _, true, rfl, .ty _, tyx_tup h, kit_ty (by decide +kernel), true, rfl, ?_⟩
      refine iteF ⟨.ref a, rfl, a, xs, rfl, .inr h, .int m, rfl, _, _, rfl, rfl, _, rfl, ?_⟩
      refine ite2 (fun h1 => ?_) fun h1 => ?_
      · have h1 := of_decide_eq_true h1
        have e : rowV n m (some os) = false := by
          show (!decide (m < (os.length : Int)) && os.all (okE n)) = false
          rw [decide_eq_true (by rw [← hl]; exact h1)]
          rfl
        have := k _ (Same.refl _)
        rw [e] at this
        exact this
      · have h1 : ¬ m < (xs.length : Int) := fun q => h1 (decide_eq_true q)
        refine ⟨.ref a, rfl, a, rfl, ⟨xs, h⟩, fun D hD => lc_tup (K := K) (a := a) (xs := xs) (fun i H' => Same H H' ∧ H' D = some (.lst (((os.map (okE n)).take i).map V.bl))) ⟨new_same hD, upd_same⟩ (fun i H' _ p => same_tup p.1 h) (fun i x H' hx p => ?_) fun H' p => ?_⟩
        · refine ⟨rfl, ?_⟩
          have hi : i < xs.length := (List.getElem?_eq_some_iff.mp hx).1
          obtain ⟨o, ho⟩ : ∃ o, os[i]? = some o := ⟨os[i]'(by omega), List.getElem?_eq_getElem _⟩
          have en := (he i x o hx ho).same p.1
          have fin : ∀ H4 : Hp, H4 = H' → ∃ acc, H4 D = some (.lst acc) ∧ acc.length < sizeLine ∧ (Same H (upd H4 D (.lst (acc ++ [V.bl (okE n o)]))) ∧ upd H4 D (.lst (acc ++ [V.bl (okE n o)])) D = some (.lst (((os.map (okE n)).take (i + 1)).map V.bl))) := fun H4 e => by
            subst e
            refine ⟨_, p.2, small1000 ?_, same_mut p.1 hD, ?_⟩
            · rw [List.length_map, List.length_take]
              omega
            · rw [upd_same, List.take_succ, List.getElem?_map, ho, List.map_append]
              rfl
          refine ⟨x, rfl, x, o, rfl, en, o.isSome, rfl, ?_⟩
          cases en with
          | oth h k1 k2 k3 => exact fin _ rfl
          | int i1 =>
            refine ⟨.int i1, rfl, i1, rfl, _, _, rfl, rfl, _, rfl, ?_⟩
            refine ite2 (fun q1 => ⟨.int n, rfl, _, _, rfl, rfl, ?_⟩) fun q1 => ?_
            · have e : okE n (some i1) = decide ((if i1 < 0 then -i1 else i1) ≤ n) := by
                show (decide _ && decide _) = _
                rw [q1]
                rfl
              have := fin _ rfl
              rw [e] at this
              exact this
            · have e : okE n (some i1) = false := by
                show (decide _ && decide _) = _
                rw [show decide (1 ≤ (if i1 < 0 then -i1 else i1)) = false from Bool.eq_false_iff.mpr q1]
                rfl
              have := fin _ rfl
              rw [e] at this
              exact this
        · refine ⟨D, os.map (okE n), rfl, lst_of ?_, ?_⟩
          · rw [p.2, List.take_of_length_le (by rw [List.length_map, hl]; exact Nat.le_refl _)]
          · have e : rowV n m (some os) = (os.map (okE n)).all id := by
              show (!decide (m < (os.length : Int)) && os.all (okE n)) = _
              rw [decide_eq_false (by rw [← hl]; exact h1), List.all_map]
              rfl
            have := k _ p.1
            rw [e] at this
            exact this
theorem cl_is_row (T : Txt K mg) : Cl P w K mg base 2 "is_row" (spIsRow K) := by
  obtain ⟨f, fd, F, hm, hb⟩ := T.f_is_row
  exact cl_of (ok_is_row F T) hm F.kp hb
theorem dec_int (u v : Int) : decide (V.int u = V.int v) = decide (u = v) := by
  by_cases h : u = v
  · subst h
    simp
  · rw [decide_eq_false h]
    exact decide_eq_false fun q => h (V.int.inj q)
theorem at_int {ns : List Int} {z : Int} {j : Nat} (e : z = (j : Int)) (h : j < ns.length) : atI (ns.map V.int) z = some (V.int (ns.getD j 0)) := by
  refine at_of e ?_
  rw [List.getElem?_map, List.getElem?_eq_getElem h, List.getD_eq_getElem?_getD, List.getElem?_eq_getElem h]
  rfl
def spIsReduced (K : PySem.W.Frag) : Sp := fun vs H Q _ => ∃ (a : Addr) (ns : List Int), vs = [.ref a] ∧ SqT K H a (ns.map V.int) ∧ ns.length ≤ 1000 ∧ ∀ H', Same H H' → Q (.bl (nfB ns)) H'
theorem ok_is_reduced {f : Addr} {fd : FuncData} (F : Fun K "is_reduced" "is_reduced" st_is_reduced f fd) (T : Txt K mg) : FnOk P w K mg base CX0 1 f fd ["row"] (spIsReduced K) := by
  refine F.ok sc_is_reduced (fun vs H Q E h => ?_) (fun cdv A outer s H vs Q E hr h => ?_)
  · obtain ⟨a, ns, rfl, _⟩ := h
    rfl
  · obtain ⟨a, ns, rfl, h, hl, k⟩ := h
    refine ⟨_, (pss_one (ps_ret (pe_callB (kcr_all (K := K) rfl) (by rfl) T.n_all bo_all (pa_cons (pe_lc (own := [("place", 1)]) rfl sc_is_reduced.nd (pi_range2 rfl T.n_range (pa_cons pe_int (pa_cons (pe_callB (kcall_len (K := K)) (by rfl) T.n_len bo_len (pa_cons (pv 0) pa_nil)) pa_nil))) (blkOk_by (N := nm_is_reduced) (sc := defScope st_is_reduced) (by decide +kernel)) (fun _ _ _ _ _ => (pg_name (i := 1) sc_is_reduced.nd rfl (by first | exact Or.inl rfl | exact Or.inr rfl))) (fun _ _ _ _ _ => pts_nil) (fun _ _ _ _ _ => (pe_cmpR op_ne (pe_ix (kix_tup (K := K)) (pv 0) (pe_op op_sub (pv 1) pe_int) (fun _ _ => rfl)) (pe_un un_neg (pe_ix (kix_tup (K := K)) (pv 0) (pv 1) (fun _ _ => rfl))) (nomark _)))) pa_nil)))), ?_⟩
    have el : (ns.map V.int).length = ns.length := List.length_map _
    let g : Nat → Bool := fun j => !decide (ns.getD j 0 = - ns.getD (j + 1) 0)
    have em : ((((ns.map V.int).length : Nat) : Int) - 1).toNat = ns.length - 1 := by rw [el]; omega
    refine ⟨.ref a, rfl, a, _, rfl, .inr h, 1, _, rfl, ⟨by decide, by decide, by omega, by omega⟩, ?_⟩
    rw [em]
    refine fun D hD => lc_range (lo := 1) (n := ns.length - 1) (fun i H' => Same H H' ∧ H' D = some (.lst (((List.range i).map g).map V.bl))) ⟨new_same hD, upd_same⟩ (fun i H' hi p => ?_) fun H' p => ?_
    · refine ⟨rfl, ?_⟩
      have h' := same_tup p.1 h
      refine ⟨.ref a, rfl, .int (1 + i), rfl, _, _, rfl, rfl, a, _, _, _, rfl, rfl, h', at_int (j := i) (by omega) (by omega), ?_⟩
      refine ⟨.ref a, rfl, .int (1 + i), rfl, a, _, _, _, rfl, rfl, h', at_int (j := i + 1) (by omega) (by omega), _, rfl, rfl, ?_⟩
      refine ⟨_, p.2, small1000 (by rw [List.length_map, List.length_map, List.length_range]; omega), same_mut p.1 hD, ?_⟩
      rw [upd_same, List.range_succ, List.map_append, List.map_append, dec_int]
      rfl
    · refine ⟨D, (List.range (ns.length - 1)).map g, rfl, lst_of p.2, ?_⟩
      have e : nfB ns = ((List.range (ns.length - 1)).map g).all id := by
        rw [List.all_map]
        rfl
      have := k _ p.1
      rw [e] at this
      exact this
theorem cl_is_reduced (T : Txt K mg) : Cl P w K mg base 1 "is_reduced" (spIsReduced K) := by
  obtain ⟨f, fd, F, hm, hb⟩ := T.f_is_reduced
  exact cl_of (ok_is_reduced F T) hm F.kp hb
def bareV (n m : Int) : Option (List (Option Int)) → Bool
  | some os => bareB n m os
  | none => false
theorem ints_of {H : Hp} {xs : List V} {os : List (Option Int)} (hl : xs.length = os.length) (he : ∀ (j : Nat) x o, xs[j]? = some x → os[j]? = some o → En K H x o) (ha : os = (intsOf os).map some) : xs = (intsOf os).map V.int := by
  refine List.ext_getElem? fun j => ?_
  by_cases hj : j < xs.length
  · have ho : os[j]? = ((intsOf os)[j]?).map some := by
      rw [← List.getElem?_map, ← ha]
    rw [List.getElem?_map]
    cases q : (intsOf os)[j]? with
    | none =>
      rw [q] at ho
      have := List.getElem?_eq_none_iff.mp ho
      omega
    | some i =>
      rw [q] at ho
      have hx : xs[j]? = some (xs[j]) := List.getElem?_eq_getElem hj
      have en := he j _ _ hx ho
      rw [hx]
      generalize xs[j] = x at en
      cases en
      rfl
  · rw [List.getElem?_eq_none (by omega), List.getElem?_eq_none]
    have : (intsOf os).length = os.length := by
      have := congrArg List.length ha
      rw [List.length_map] at this
      exact this.symm
    rw [List.length_map]
    omega
def spIsBareRow (K : PySem.W.Frag) : Sp := fun vs H Q _ => ∃ (n m : Int) (v : V) (o : Option (List (Option Int))), vs = [.int n, v, .int m] ∧ m ≤ 1000 ∧ Va K H v o ∧ ∀ H', Same H H' → Q (.bl (bareV n m o)) H'
theorem ok_is_bare_row {f : Addr} {fd : FuncData} (F : Fun K "is_bare_row" "is_bare_row" st_is_bare_row f fd) (T : Txt K mg) : FnOk P w K mg base CX0 3 f fd ["letters", "value", "most"] (spIsBareRow K) := by
  have c_is_row : Cl P w K mg base 2 "is_row" (spIsRow K) := cl_is_row T
  have c_is_reduced : Cl P w K mg base 1 "is_reduced" (spIsReduced K) := cl_is_reduced T
  refine F.ok sc_is_bare_row (fun vs H Q E h => ?_) (fun cdv A outer s H vs Q E hr h => ?_)
  · obtain ⟨n, m, v, o, rfl, _⟩ := h
    rfl
  · obtain ⟨n, m, v, o, rfl, hm, va, k⟩ := h
    refine ⟨_, (pss_one (ps_ret (pe_and (pe_f c_is_row hr (by decide) rfl (pa_cons (pv 0) (pa_cons (pv 1) (pa_cons (pv 2) pa_nil)))) (pe_one (pe_f c_is_reduced hr (by decide) rfl (pa_cons (pv 1) pa_nil)))))), ?_⟩
    refine ⟨.int n, rfl, v, rfl, .int m, rfl, n, m, v, o, rfl, hm, va, fun H1 e1 => ⟨_, rfl, ?_⟩⟩
    cases va with
    | oth h kt => exact k _ e1
    | @tup a xs os h hl he =>
      show if rowB n m os = true then _ else _
      refine ite2 (fun hb => ?_) fun hb => ?_
      · have hb2 : (!decide (m < (os.length : Int)) && os.all (okE n)) = true := hb
        rw [Bool.and_eq_true, Bool.not_eq_true'] at hb2
        have a1 := of_decide_eq_false hb2.1
        have e := ints_of hl he (all_some hb2.2)
        have el : (intsOf os).length = os.length := by
          have := congrArg List.length e
          rw [List.length_map] at this
          omega
        rw [e] at h
        refine ⟨.ref a, rfl, a, intsOf os, rfl, same_tup e1 h, by omega, fun H2 e2 => ?_⟩
        have := k _ (Same.trans e1 e2)
        have e3 : bareV n m (some os) = nfB (intsOf os) := by
          show (rowB n m os && nfB (intsOf os)) = _
          rw [hb]
          rfl
        rw [e3] at this
        exact this
      · have := k _ e1
        have e3 : bareV n m (some os) = false := by
          show (rowB n m os && nfB (intsOf os)) = _
          rw [Bool.eq_false_iff.mpr hb]
          rfl
        rw [e3] at this
        exact this
theorem cl_is_bare_row (T : Txt K mg) : Cl P w K mg base 3 "is_bare_row" (spIsBareRow K) := by
  obtain ⟨f, fd, F, hm, hb⟩ := T.f_is_bare_row
  exact cl_of (ok_is_bare_row F T) hm F.kp hb
def spChkWord (K : PySem.W.Frag) : Sp := fun vs H Q _ => ∃ (n : Int) (a : Addr) (ns : List Int), vs = [.int n, .ref a] ∧ SqT K H a (ns.map V.int) ∧ Wd n ns ∧ ns.length ≤ 200 ∧ ∀ H', Same H H' → Q .non H'
theorem ok_check_word {f : Addr} {fd : FuncData} (F : Fun K "check_word" "check_word" st_check_word f fd) (T : Txt K mg) : FnOk P w K mg base CX0 4 f fd ["letters", "word"] (spChkWord K) := by
  have c_is_bare_row : Cl P w K mg base 3 "is_bare_row" (spIsBareRow K) := cl_is_bare_row T
  refine F.ok sc_check_word (fun vs H Q E h => ?_) (fun cdv A outer s H vs Q E hr h => ?_)
  · obtain ⟨n, a, ns, rfl, _⟩ := h
    rfl
  · obtain ⟨n, a, ns, rfl, h, hw, hl, k⟩ := h
    refine ⟨_, (pss_one (ps_if (pt_not (pt_val (pe_f c_is_bare_row hr (by decide) rfl (pa_cons (pv 0) (pa_cons (pv 1) (pa_cons (pe_glob rfl T.c_MAX_WORD.choose_spec rel_int) pa_nil)))))) (pss_one ps_never) pss_nil)), ?_⟩
    refine ⟨.int n, rfl, .ref a, rfl, n, 200, .ref a, _, rfl, by decide, va_ints h, fun H1 e1 => ⟨_, rfl, ?_⟩⟩
    show if (!bareB n 200 (ns.map some)) = true then _ else _
    rw [bare_wd hw (by omega)]
    exact k _ e1
theorem cl_check_word (T : Txt K mg) : Cl P w K mg base 4 "check_word" (spChkWord K) := by
  obtain ⟨f, fd, F, hm, hb⟩ := T.f_check_word
  exact cl_of (ok_check_word F T) hm F.kp hb
/-- some words, each at its address -/
def Ws (K : PySem.W.Frag) (H : Hp) (n : Int) (ws : List (Addr × List Int)) : Prop := ∀ p ∈ ws, SqT K H p.1 (p.2.map V.int) ∧ Wd n p.2 ∧ p.2.length ≤ 200
def spChkWords (K : PySem.W.Frag) : Sp := fun vs H Q _ => ∃ (n : Int) (t : Addr) (ws : List (Addr × List Int)), vs = [.int n, .ref t] ∧ 1 ≤ n ∧ n ≤ 5 ∧ SqT K H t (ws.map fun p => V.ref p.1) ∧ Ws K H n ws ∧ ∀ H', Same H H' → Q .non H'
theorem ok_check_words {f : Addr} {fd : FuncData} (F : Fun K "check_words" "check_words" st_check_words f fd) (T : Txt K mg) : FnOk P w K mg base CX0 5 f fd ["letters", "words"] (spChkWords K) := by
  have c_check_letters : Cl P w K mg base 3 "check_letters" spChkLetters := cl_check_letters T
  have c_check_word : Cl P w K mg base 4 "check_word" (spChkWord K) := cl_check_word T
  refine F.ok sc_check_words (fun vs H Q E h => ?_) (fun cdv A outer s H vs Q E hr h => ?_)
  · obtain ⟨n, t, ws, rfl, _⟩ := h
    rfl
  · obtain ⟨n, t, ws, rfl, n1, n5, ht, hw, k⟩ := h
    refine ⟨_, (pss_cons (ps_expr (pe_f c_check_letters hr (by decide) rfl (pa_cons (pv 0) pa_nil))) (pss_one (ps_for PassesOwn.never rfl (kpi_tup (K := K) (pv 1)) (pg_name (i := 2) sc_check_words.nd rfl (Or.inl rfl)) (pss_one (ps_expr (pe_f c_check_word hr (by decide) rfl (pa_cons (pv 0) (pa_cons (pv 2) pa_nil)))))))), ?_⟩
    refine ⟨.int n, rfl, n, rfl, n1, n5, .ref t, rfl, t, rfl, ⟨_, ht⟩, for_tup (K := K) (a := t) (xs := ws.map fun p => V.ref p.1) (fun _ σ H' => Same H H' ∧ ∃ x, σ = [some (.int n), some (.ref t), x]) ⟨Same.refl _, none, rfl⟩ (fun _ σ H' _ p => same_tup p.1 ht) (fun i x σ H' hx p => ?_) fun σ H' p => k _ p.1⟩
    obtain ⟨e1, y, rfl⟩ := p
    rw [List.getElem?_map] at hx
    cases q : ws[i]? with
    | none => rw [q] at hx; cases hx
    | some u =>
      rw [q] at hx
      cases hx
      obtain ⟨h1, h2, h3⟩ := hw u (List.mem_of_getElem? q)
      exact ⟨.int n, rfl, .ref u.1, rfl, n, u.1, u.2, rfl, same_tup e1 h1, h2, h3, fun H2 e2 => ⟨Same.trans e1 e2, _, rfl⟩⟩
theorem cl_check_words (T : Txt K mg) : Cl P w K mg base 5 "check_words" (spChkWords K) := by
  obtain ⟨f, fd, F, hm, hb⟩ := T.f_check_words
  exact cl_of (ok_check_words F T) hm F.kp hb
/-- what a turn does to the pile, and its reading -/
theorem act_take {ns : List Int} {i : Nat} {e : Int} (h : ns[i]? = some e) : Fr.act (ns.take (i + 1)) [] = Fr.push e (Fr.act (ns.take i) []) := by
  rw [List.take_succ, h]
  show Fr.act (ns.take i ++ [e]) [] = _
  rw [Fr.act_app]
  rfl
def kp (ns : List Int) (i : Nat) : List V := ((Fr.act (ns.take i) []).reverse).map V.int
theorem kp_len (ns : List Int) (i : Nat) : (kp ns i).length ≤ ns.length := by
  unfold kp
  rw [List.length_map, List.length_reverse]
  have h := len_act (ns.take i) []
  rw [List.length_take] at h
  simp at h
  omega
theorem get_int {ns : List Int} {i : Nat} {x : V} (h : (ns.map V.int)[i]? = some x) : ∃ e, ns[i]? = some e ∧ x = .int e := by
  rw [List.getElem?_map] at h
  cases q : ns[i]? with
  | none => rw [q] at h; cases h
  | some e => rw [q] at h; exact ⟨e, rfl, (Option.some.inj h).symm⟩
theorem kp_end (ns : List Int) : kp ns ns.length = (Fr.red ns).map V.int := by
  unfold kp Fr.red
  rw [List.take_length]
def SqA (K : PySem.W.Frag) (H : Hp) (a : Addr) (xs : List V) : Prop := SqL K H a xs ∨ SqT K H a xs
def spReduced (K : PySem.W.Frag) : Sp := fun vs H Q _ => ∃ (a : Addr) (ns : List Int), vs = [.ref a] ∧ SqA K H a (ns.map V.int) ∧ ns.length ≤ 20000 ∧ ∀ H' p, Same H H' → SqT K H' p ((Fr.red ns).map V.int) → Q (.ref p) H'
theorem ok_reduced {f : Addr} {fd : FuncData} (F : Fun K "reduced" "reduced" st_reduced f fd) (T : Txt K mg) : FnOk P w K mg base CX0 1 f fd ["row"] (spReduced K) := by
  refine F.ok sc_reduced (fun vs H Q E h => ?_) (fun cdv A outer s H vs Q E hr h => ?_)
  · obtain ⟨a, ns, rfl, _⟩ := h
    rfl
  · obtain ⟨a, ns, rfl, h, hz, k⟩ := h
    let Pv : Addr → Nat → L2.St → Hp → Prop := fun l i σ H' => ∃ x, σ = [some (.ref a), some (.ref l), x] ∧ H' = upd H l (.lst (kp ns i))
    have zl : ∀ {j : Nat}, j ≤ ns.length → j < sizeLine := fun hj => Nat.lt_of_le_of_lt (Nat.le_trans hj hz) (by decide)
    have last : ∀ (l : Addr) (σ : L2.St) (H' : Hp), H l = none → Pv l (ns.map V.int).length σ H' → (tRet (tCB (rTupOf K) (tCons (tVar 1) tNil))) { nx := fun _ H' => Q .non H', rt := Q } σ H' := fun l σ H' hl ⟨x, es, eh⟩ => by
      subst es eh
      refine ⟨.ref l, rfl, l, _, rfl, .inl ⟨lst_of upd_same, fun q hq => k _ _ (Same.trans (new_same hl) (new_same hq)) (tup_of ?_)⟩⟩
      rw [upd_same, List.length_map, kp_end]
    rcases h with h | h
    · refine ⟨_, (pss_cons (ps_set (i := 1) sc_reduced.nd rfl (Or.inl rfl) (pe_lst pa_nil)) (pss_cons (ps_for PassesOwn.never rfl (kpi_list (K := K) (pv 0)) (pg_name (i := 2) sc_reduced.nd rfl (Or.inl rfl)) (pss_one (ps_if (PW.pt (pw_and (kpt_truth (K := K) (pv 1) (by intro _; rfl)) (pw_and1 (pt_cmpR op_eq (pe_ix (kix_list (K := K)) (pv 1) (pe_un un_neg pe_int) (fun _ _ => rfl)) (pe_un un_neg (pv 2)) (nomark _))))) (pss_one (ps_expr (pe_bm0 PySem.F.plainAttrs_list PySem.F.slot_list_pop PySem.F.type_list_pop mt_pop (pv 1)))) (pss_one (ps_expr (pe_bm PySem.F.plainAttrs_list PySem.F.slot_list_append PySem.F.type_list_append mt_append (pv 1) (pa_cons (pv 2) pa_nil))))))) (pss_one (ps_ret (pe_callTy (kcall_tuple (K := K)) (by rfl) T.n_tuple bo_tuple (pa_cons (pv 1) pa_nil)))))), ?_⟩
      refine ⟨Nat.zero_le _, fun l hl => ⟨.ref a, rfl, a, rfl, ⟨_, (Rs.same (S := none) True.intro (new_same hl)).lst (fun q => nomatch q) h⟩, for_list (K := K) (a := a) (xs := ns.map V.int) (Pv l) ⟨none, rfl, rfl⟩ (fun i σ H' _ p => ?_) (fun i x σ H' hx p => ?_) fun σ H' p => last l σ H' hl p⟩⟩
      · obtain ⟨x, _, rfl⟩ := p
        exact (Rs.same (S := none) True.intro (new_same hl)).lst (fun q => nomatch q) h
      · obtain ⟨y, rfl, rfl⟩ := p
        obtain ⟨e, he, rfl⟩ := get_int hx
        have at1 := act_take he
        cases q : Fr.act (ns.take i) [] with
        | nil =>
          have ek : kp ns i = [] := by unfold kp; rw [q]; rfl
          have ek1 : kp ns (i + 1) = [.int e] := by unfold kp; rw [at1, q]; rfl
          refine ⟨.ref l, rfl, false, .inl ⟨_, lst_of upd_same, by rw [ek]; rfl⟩, ?_⟩
          refine ⟨.ref l, rfl, .inl ⟨rfl, _, SqL.of upd_same⟩, .int e, rfl, l, _, _, rfl, rfl, upd_same, zl (kp_len ns i), some (.int e), rfl, ?_⟩
          rw [upd_upd, ek, ek1]
          rfl
        | cons y1 t =>
          have ek : kp ns i = (t.reverse.map V.int) ++ [.int y1] := by unfold kp; rw [q, List.reverse_cons, List.map_append]; rfl
          refine ⟨.ref l, rfl, true, .inl ⟨_, lst_of upd_same, by rw [ek]; simp⟩, ?_⟩
          refine ⟨.ref l, rfl, 1, rfl, l, _, _, .int y1, rfl, rfl, lst_of upd_same, by rw [ek]; exact atI_last _ _, .int e, rfl, e, rfl, rfl, _, rfl, ?_⟩
          refine ite2 (fun h1 => ?_) fun h1 => ?_
          · have h1 : y1 = -e := V.int.inj (of_decide_eq_true h1)
            have ek1 : kp ns (i + 1) = t.reverse.map V.int := by unfold kp; rw [at1, q, Fr.push_eq h1]
            refine ⟨.ref l, rfl, .inl ⟨rfl, _, SqL.of upd_same⟩, l, _, .int y1, rfl, rfl, upd_same, by rw [ek]; simp, some (.int e), rfl, ?_⟩
            rw [upd_upd, ek, ek1, List.dropLast_concat]
          · have h1 : ¬ y1 = -e := fun z => h1 (decide_eq_true (congrArg V.int z))
            have ek1 : kp ns (i + 1) = kp ns i ++ [.int e] := by unfold kp; rw [at1, q, Fr.push_on h1, List.reverse_cons, List.map_append]; rfl
            refine ⟨.ref l, rfl, .inl ⟨rfl, _, SqL.of upd_same⟩, .int e, rfl, l, _, _, rfl, rfl, upd_same, zl (kp_len ns i), some (.int e), rfl, ?_⟩
            rw [upd_upd, ek1]
    · refine ⟨_, (pss_cons (ps_set (i := 1) sc_reduced.nd rfl (Or.inl rfl) (pe_lst pa_nil)) (pss_cons (ps_for PassesOwn.never rfl (kpi_tup (K := K) (pv 0)) (pg_name (i := 2) sc_reduced.nd rfl (Or.inl rfl)) (pss_one (ps_if (PW.pt (pw_and (kpt_truth (K := K) (pv 1) (by intro _; rfl)) (pw_and1 (pt_cmpR op_eq (pe_ix (kix_list (K := K)) (pv 1) (pe_un un_neg pe_int) (fun _ _ => rfl)) (pe_un un_neg (pv 2)) (nomark _))))) (pss_one (ps_expr (pe_bm0 PySem.F.plainAttrs_list PySem.F.slot_list_pop PySem.F.type_list_pop mt_pop (pv 1)))) (pss_one (ps_expr (pe_bm PySem.F.plainAttrs_list PySem.F.slot_list_append PySem.F.type_list_append mt_append (pv 1) (pa_cons (pv 2) pa_nil))))))) (pss_one (ps_ret (pe_callTy (kcall_tuple (K := K)) (by rfl) T.n_tuple bo_tuple (pa_cons (pv 1) pa_nil)))))), ?_⟩
      refine ⟨Nat.zero_le _, fun l hl => ⟨.ref a, rfl, a, rfl, ⟨_, same_tup (new_same hl) h⟩, for_tup (K := K) (a := a) (xs := ns.map V.int) (Pv l) ⟨none, rfl, rfl⟩ (fun i σ H' _ p => ?_) (fun i x σ H' hx p => ?_) fun σ H' p => last l σ H' hl p⟩⟩
      · obtain ⟨x, _, rfl⟩ := p
        exact same_tup (new_same hl) h
      · obtain ⟨y, rfl, rfl⟩ := p
        obtain ⟨e, he, rfl⟩ := get_int hx
        have at1 := act_take he
        cases q : Fr.act (ns.take i) [] with
        | nil =>
          have ek : kp ns i = [] := by unfold kp; rw [q]; rfl
          have ek1 : kp ns (i + 1) = [.int e] := by unfold kp; rw [at1, q]; rfl
          refine ⟨.ref l, rfl, false, .inl ⟨_, lst_of upd_same, by rw [ek]; rfl⟩, ?_⟩
          refine ⟨.ref l, rfl, .inl ⟨rfl, _, SqL.of upd_same⟩, .int e, rfl, l, _, _, rfl, rfl, upd_same, zl (kp_len ns i), some (.int e), rfl, ?_⟩
          rw [upd_upd, ek, ek1]
          rfl
        | cons y1 t =>
          have ek : kp ns i = (t.reverse.map V.int) ++ [.int y1] := by unfold kp; rw [q, List.reverse_cons, List.map_append]; rfl
          refine ⟨.ref l, rfl, true, .inl ⟨_, lst_of upd_same, by rw [ek]; simp⟩, ?_⟩
          refine ⟨.ref l, rfl, 1, rfl, l, _, _, .int y1, rfl, rfl, lst_of upd_same, by rw [ek]; exact atI_last _ _, .int e, rfl, e, rfl, rfl, _, rfl, ?_⟩
          refine ite2 (fun h1 => ?_) fun h1 => ?_
          · have h1 : y1 = -e := V.int.inj (of_decide_eq_true h1)
            have ek1 : kp ns (i + 1) = t.reverse.map V.int := by unfold kp; rw [at1, q, Fr.push_eq h1]
            refine ⟨.ref l, rfl, .inl ⟨rfl, _, SqL.of upd_same⟩, l, _, .int y1, rfl, rfl, upd_same, by rw [ek]; simp, some (.int e), rfl, ?_⟩
            rw [upd_upd, ek, ek1, List.dropLast_concat]
          · have h1 : ¬ y1 = -e := fun z => h1 (decide_eq_true (congrArg V.int z))
            have ek1 : kp ns (i + 1) = kp ns i ++ [.int e] := by unfold kp; rw [at1, q, Fr.push_on h1, List.reverse_cons, List.map_append]; rfl
            refine ⟨.ref l, rfl, .inl ⟨rfl, _, SqL.of upd_same⟩, .int e, rfl, l, _, _, rfl, rfl, upd_same, zl (kp_len ns i), some (.int e), rfl, ?_⟩
            rw [upd_upd, ek1]
theorem cl_reduced (T : Txt K mg) : Cl P w K mg base 1 "reduced" (spReduced K) := by
  obtain ⟨f, fd, F, hm, hb⟩ := T.f_reduced
  exact cl_of (ok_reduced F T) hm F.kp hb
def spOpp (K : PySem.W.Frag) : Sp := fun vs H Q _ => ∃ (a : Addr) (ns : List Int), vs = [.ref a] ∧ SqT K H a (ns.map V.int) ∧ ns.length ≤ 20000 ∧ ∀ H' p, Same H H' → SqT K H' p ((Fr.opp ns).map V.int) → Q (.ref p) H'
theorem opp_take (ns : List Int) (i : Nat) (e : Int) (h : ns.reverse[i]? = some e) : (ns.reverse.take (i + 1)).map (fun x => -x) = (ns.reverse.take i).map (fun x => -x) ++ [-e] := by
  rw [List.take_succ, h, List.map_append]
  rfl
theorem opp_all (ns : List Int) : (ns.reverse.take ns.length).map (fun x => -x) = Fr.opp ns := by
  rw [List.take_of_length_le (by rw [List.length_reverse]; exact Nat.le_refl _), List.map_reverse]
  rfl
theorem ok_opposite {f : Addr} {fd : FuncData} (F : Fun K "opposite" "opposite" st_opposite f fd) (T : Txt K mg) : FnOk P w K mg base CX0 1 f fd ["row"] (spOpp K) := by
  refine F.ok sc_opposite (fun vs H Q E h => ?_) (fun cdv A outer s H vs Q E hr h => ?_)
  · obtain ⟨a, ns, rfl, _⟩ := h
    rfl
  · obtain ⟨a, ns, rfl, h, hz, k⟩ := h
    refine ⟨_, (pss_one (ps_ret (pe_callTy (kcall_tuple (K := K)) (by rfl) T.n_tuple bo_tuple (pa_cons (pe_lc (own := [("entry", 1)]) rfl sc_opposite.nd (kpi_tup (K := K) (kpe_revT (K := K) (pv 0))) (blkOk_by (N := nm_opposite) (sc := defScope st_opposite) (by decide +kernel)) (fun _ _ _ _ _ => (pg_name (i := 1) sc_opposite.nd rfl (by first | exact Or.inl rfl | exact Or.inr rfl))) (fun _ _ _ _ _ => pts_nil) (fun _ _ _ _ _ => (pe_un un_neg (pv 1)))) pa_nil)))), ?_⟩
    refine ⟨.ref a, rfl, a, _, rfl, h, fun p hp => ⟨p, rfl, ⟨_, tup_of upd_same⟩, fun D hD => lc_tup (K := K) (a := p) (xs := (ns.map V.int).reverse) (fun i H' => Same (upd H p (.tup (ns.map V.int).reverse)) H' ∧ H' D = some (.lst (((ns.reverse.take i).map fun x => -x).map V.int))) ⟨new_same hD, upd_same⟩ (fun i H' _ q => same_tup q.1 (tup_of upd_same)) (fun i x H' hx q => ?_) fun H' q => ?_⟩⟩
    · rw [← List.map_reverse] at hx
      have hi : i < ns.length := by
        have := (List.getElem?_eq_some_iff.mp hx).1
        rw [List.length_map, List.length_reverse] at this
        exact this
      rw [List.getElem?_map] at hx
      cases z : ns.reverse[i]? with
      | none => rw [z] at hx; cases hx
      | some e =>
        rw [z] at hx
        cases hx
        refine ⟨rfl, .int e, rfl, e, rfl, _, q.2, Nat.lt_of_le_of_lt (Nat.le_trans (by rw [List.length_map, List.length_map, List.length_take]; omega) hz) (by decide), same_mut q.1 hD, ?_⟩
        rw [upd_same, opp_take ns i e z, List.map_append]
        rfl
    · refine ⟨D, _, rfl, .inl ⟨lst_of q.2, fun l hl => k _ _ (Same.trans (Same.trans (new_same hp) q.1) (new_same hl)) (tup_of ?_)⟩⟩
      rw [upd_same, List.length_reverse, List.length_map, opp_all]
theorem cl_opposite (T : Txt K mg) : Cl P w K mg base 1 "opposite" (spOpp K) := by
  obtain ⟨f, fd, F, hm, hb⟩ := T.f_opposite
  exact cl_of (ok_opposite F T) hm F.kp hb
/-- a word in its two parts -/
def Spl (ns c m : List Int) : Prop := ns = c ++ m ++ Fr.opp c ∧ (ns = [] → c = [] ∧ m = []) ∧ (ns ≠ [] → m ≠ [] ∧ ∀ x y, m.getLast? = some x → m.head? = some y → x ≠ -y)
def spSplit (K : PySem.W.Frag) : Sp := fun vs H Q _ => ∃ (n : Int) (a : Addr) (ns : List Int), vs = [.ref a] ∧ SqT K H a (ns.map V.int) ∧ Wd n ns ∧ ns.length ≤ 20000 ∧
  ∀ H' p pc pm c m, Same H H' → Spl ns c m → SqT K H' p [.ref pc, .ref pm] → SqT K H' pc (c.map V.int) → SqT K H' pm (m.map V.int) → Q (.ref p) H'
theorem ok_split_core {f : Addr} {fd : FuncData} (F : Fun K "split_core" "split_core" st_split_core f fd) (T : Txt K mg) : FnOk P w K mg base CX0 1 f fd ["row"] (spSplit K) := by
  refine F.ok sc_split_core (fun vs H Q E h => ?_) (fun cdv A outer s H vs Q E hr h => ?_)
  · obtain ⟨n, a, ns, rfl, _⟩ := h
    rfl
  · obtain ⟨n, a, ns, rfl, h, hw, hz, k⟩ := h
    refine ⟨_, (pss_cons (ps_set (i := 1) sc_split_core.nd rfl (Or.inl rfl) (pe_callB (kcall_len (K := K)) (by rfl) T.n_len bo_len (pa_cons (pv 0) pa_nil))) (pss_cons (ps_set (i := 2) sc_split_core.nd rfl (Or.inl rfl) pe_int) (pss_cons (ps_while PassesOwn.never (PW.pt (pw_and (pt_cmpR op_lt (pe_op op_add (pe_op op_mul pe_int (pv 2)) pe_int) (pv 1) (nomark _)) (pw_and1 (pt_cmpR op_eq (pe_ix (kix_tup (K := K)) (pv 0) (pv 2) (fun _ _ => rfl)) (pe_un un_neg (pe_ix (kix_tup (K := K)) (pv 0) (pe_op op_sub (pe_op op_sub (pv 1) pe_int) (pv 2)) (fun _ _ => rfl))) (nomark _))))) (pss_one (ps_aug (i := 2) sc_split_core.nd rfl (Or.inl rfl) pe_int ip_add))) (pss_one (ps_ret (pe_tup (pa_cons (pe_slice (ksl_tupA (K := K)) (pv 0) po_none (po_some (pv 2))) (pa_cons (pe_slice (ksl_tupA (K := K)) (pv 0) (po_some (pv 2)) (po_some (pe_op op_sub (pv 1) (pv 2)))) pa_nil)))))))), ?_⟩
    refine ⟨.ref a, rfl, a, _, rfl, .inr h, ?_⟩
    rw [show (((ns.map V.int).length : Nat) : Int) = (ns.length : Int) by rw [List.length_map]]
    have fin : ∀ d : Nat, Pal ns d → ¬ (2 * d + 1 < ns.length ∧ ns.getD d 0 = - ns.getD (ns.length - 1 - d) 0) → (tRet (tTup (tCons (tSl (rSlA K) (tVar 0) tNoPart (tPart (tVar 2))) (tCons (tSl (rSlA K) (tVar 0) (tPart (tVar 2)) (tPart (tOp (rI0 fun i j => V.int (i - j)) (tVar 1) (tVar 2)))) tNil)))) { nx := fun _ H' => Q .non H', rt := Q } [some (.ref a), some (.int (ns.length : Int)), some (.int (d : Int))] H := fun d hp hs => by
      have h2d := hp.1
      refine ⟨.ref a, rfl, .int (d : Int), rfl, (d : Int), rfl, sl_ints h fun H1 pc e1 hc => ?_⟩
      rw [cutI_to] at hc
      refine ⟨.ref a, rfl, .int (d : Int), rfl, (d : Int), rfl, .int (ns.length : Int), rfl, .int (d : Int), rfl, _, _, rfl, rfl, _, rfl, sl_ints (same_tup e1 h) fun H2 pm e2 hm => ?_⟩
      rw [show (ns.length : Int) - (d : Int) = ((ns.length - d : Nat) : Int) by omega, cutI_mid ns d (ns.length - d) (by omega) (by omega)] at hm
      refine ⟨by show 2 ≤ sizeLine; decide, fun p hpn => k _ p pc pm (ns.take d) _ (Same.trans (Same.trans e1 e2) (new_same hpn)) ⟨pal_split hp, fun q => ?_, fun q => pal_mid hw hp q hs⟩ (tup_of upd_same) (same_tup (Same.trans e2 (new_same hpn)) hc) (same_tup (new_same hpn) hm)⟩
      subst q
      simp
    refine ⟨fun m σ H' => ∃ d : Nat, m = ns.length - d ∧ Pal ns d ∧ H' = H ∧ σ = [some (.ref a), some (.int (ns.length : Int)), some (.int (d : Int))], ⟨ns.length, 0, rfl, ⟨Nat.zero_le _, fun j hj => absurd hj (Nat.not_lt_zero _)⟩, rfl, rfl⟩, fun m σ H' ⟨d, hm, hp, eH, es⟩ => ?_⟩
    subst eH es
    have h2d := hp.1
    refine ⟨.int (d : Int), rfl, 2, (d : Int), rfl, rfl, .inl ⟨by decide, by decide⟩, _, _, rfl, rfl, .int (ns.length : Int), rfl, _, _, rfl, rfl, _, rfl, ?_⟩
    refine ite2 (fun h1 => ?_) fun h1 => ?_
    · have h1 : (2 : Int) * d + 1 < ns.length := of_decide_eq_true h1
      refine ⟨.ref a, rfl, .int (d : Int), rfl, a, _, _, _, rfl, rfl, h, at_int (j := d) rfl (by omega), ?_⟩
      refine ⟨.ref a, rfl, .int (ns.length : Int), rfl, _, _, rfl, rfl, .int (d : Int), rfl, _, _, rfl, rfl, a, _, _, _, rfl, rfl, h, at_int (j := ns.length - 1 - d) (by omega) (by omega), _, rfl, rfl, _, rfl, ?_⟩
      rw [dec_int]
      refine ite2 (fun h2 => ?_) fun h2 => ?_
      · have h2 := of_decide_eq_true h2
        refine ⟨fun σ' H2 => H2 = H' ∧ σ' = [some (.ref a), some (.int (ns.length : Int)), some (.int ((d : Int) + 1))], fun σ' H' ⟨e1, e2⟩ => ⟨ns.length - (d + 1), by omega, d + 1, rfl, ⟨by omega, fun j hj => ?_⟩, e1, e2⟩, .int (d : Int), rfl, _, _, rfl, rfl, rfl, rfl⟩
        by_cases hjd : j = d
        · subst hjd; exact h2
        · exact hp.2 j (by omega)
      · exact fin d hp fun q => h2 (decide_eq_true q.2)
    · have h1 : ¬ (2 : Int) * d + 1 < ns.length := fun q => h1 (decide_eq_true q)
      exact fin d hp fun q => h1 (by omega)
theorem cl_split_core (T : Txt K mg) : Cl P w K mg base 1 "split_core" (spSplit K) := by
  obtain ⟨f, fd, F, hm, hb⟩ := T.f_split_core
  exact cl_of (ok_split_core F T) hm F.kp hb
/-- some tuples of numbers, each at its address -/
def Tis (K : PySem.W.Frag) (H : Hp) (ws : List (Addr × List Int)) : Prop := ∀ p ∈ ws, SqT K H p.1 (p.2.map V.int)
def fl (ws : List (Addr × List Int)) : List Int := (ws.map (·.2)).flatten
theorem fl_take {ws : List (Addr × List Int)} {i : Nat} {u : Addr × List Int} (h : ws[i]? = some u) : fl (ws.take (i + 1)) = fl (ws.take i) ++ u.2 := by
  unfold fl
  rw [List.take_succ, h, List.map_append, List.flatten_append]
  show _ ++ (u.2 ++ []) = _
  rw [List.append_nil]
theorem len_app_le {a b c : List Int} (h : a ++ b = c) : a.length ≤ c.length := by
  rw [← h, List.length_append]
  omega
theorem fl_take_le (ws : List (Addr × List Int)) (i : Nat) : (fl (ws.take i)).length ≤ (fl ws).length := by
  refine len_app_le (b := fl (ws.drop i)) ?_
  unfold fl
  rw [← List.flatten_append, ← List.map_append, List.take_append_drop]
def spJoined (K : PySem.W.Frag) : Sp := fun vs H Q _ => ∃ (t : Addr) (ws : List (Addr × List Int)), vs = [.ref t] ∧ SqT K H t (ws.map fun p => V.ref p.1) ∧ Tis K H ws ∧ (fl ws).length ≤ 20000 ∧ ∀ H' p, Same H H' → SqT K H' p ((Fr.red (fl ws)).map V.int) → Q (.ref p) H'
theorem ok_product_of {f : Addr} {fd : FuncData} (F : Fun K "product_of" "product_of" st_product_of f fd) (T : Txt K mg) : FnOk P w K mg base CX0 2 f fd ["rows"] (spJoined K) := by
  have c_reduced : Cl P w K mg base 1 "reduced" (spReduced K) := cl_reduced T
  refine F.ok sc_product_of (fun vs H Q E h => ?_) (fun cdv A outer s H vs Q E hr h => ?_)
  · obtain ⟨t, ws, rfl, _⟩ := h
    rfl
  · obtain ⟨t, ws, rfl, ht, hw, hz, k⟩ := h
    refine ⟨_, (pss_one (ps_ret (pe_f c_reduced hr (by decide) rfl (pa_cons (pe_lc2 (own := [("row", 1), ("entry", 2)]) (vs1 := [2]) rfl sc_product_of.nd (kpi_tup (K := K) (pv 0)) (blkOk_by (N := nm_product_of) (sc := defScope st_product_of) (by decide +kernel)) (by decide) (fun _ _ _ _ _ => (pg_name (i := 1) sc_product_of.nd rfl (by first | exact Or.inl rfl | exact Or.inr rfl))) (fun _ _ _ _ _ => pts_nil) (fun _ _ _ _ _ => (kpi_tup (K := K) (pv 1))) (fun _ _ _ _ _ => (pg_name (i := 2) sc_product_of.nd rfl (by first | exact Or.inl rfl | exact Or.inr rfl))) (fun _ _ _ _ _ => pts_nil) (fun _ _ _ _ _ => (pv 2))) pa_nil)))), ?_⟩
    refine ⟨.ref t, rfl, t, rfl, ⟨_, ht⟩, fun D hD => ?_⟩
    refine ⟨fun i m H' => m = ws.length - i ∧ i ≤ ws.length ∧ Same H H' ∧ H' D = some (.lst ((fl (ws.take i)).map V.int)), ⟨ws.length, by simp, Nat.zero_le _, new_same hD, upd_same⟩, fun i m H1 ⟨e1, i1, s1, d1⟩ => ?_⟩
    have t1 := same_tup s1 ht
    by_cases hi : i < ws.length
    · have hu : ws[i]? = some ws[i] := List.getElem?_eq_getElem hi
      generalize ws[i] = u at hu
      have hu' := hw u (List.mem_of_getElem? hu)
      refine .inr ⟨⟨_, .ref u.1, t1, by rw [List.getElem?_map, hu]; rfl⟩, fun H' => i + 1 ≤ ws.length ∧ Same H H' ∧ H' D = some (.lst ((fl (ws.take (i + 1))).map V.int)), fun H' q => ⟨ws.length - (i + 1), by omega, rfl, q⟩, fun x H' y => ?_⟩
      obtain ⟨e2, y⟩ := y
      subst e2
      have hx : x = .ref u.1 := by
        have := y _ t1
        rw [List.getElem?_map, hu] at this
        exact (Option.some.inj this).symm
      subst hx
      refine ⟨rfl, .ref u.1, rfl, u.1, rfl, ⟨_, same_tup s1 hu'⟩, fun j m2 H' => m2 = u.2.length - j ∧ j ≤ u.2.length ∧ Same H H' ∧ H' D = some (.lst ((fl (ws.take i) ++ u.2.take j).map V.int)), ⟨u.2.length, by simp, Nat.zero_le _, s1, by rw [List.take_zero, List.append_nil]; exact d1⟩, fun j m2 H2 ⟨e3, j1, s2, d2⟩ => ?_⟩
      have t2 := same_tup s2 hu'
      by_cases hj : j < u.2.length
      · have hv := getD_of hj
        refine .inr ⟨⟨_, .int (u.2.getD j 0), t2, by rw [List.getElem?_map, hv]; rfl⟩, fun H' => j + 1 ≤ u.2.length ∧ Same H H' ∧ H' D = some (.lst ((fl (ws.take i) ++ u.2.take (j + 1)).map V.int)), fun H' q => ⟨u.2.length - (j + 1), by omega, rfl, q⟩, fun x H' y => ?_⟩
        obtain ⟨e2, y⟩ := y
        subst e2
        have hx : x = .int (u.2.getD j 0) := by
          have := y _ t2
          rw [List.getElem?_map, hv] at this
          exact (Option.some.inj this).symm
        subst hx
        have hle : (fl (ws.take i)).length + u.2.length ≤ 20000 := by
          have := fl_take_le ws (i + 1)
          rw [fl_take hu, List.length_append] at this
          omega
        refine ⟨rfl, .int (u.2.getD j 0), rfl, _, d2, Nat.lt_of_le_of_lt (by rw [List.length_map, List.length_append, List.length_take]; omega : _ ≤ 20000) (by decide), by omega, same_mut s2 hD, ?_⟩
        rw [upd_same, List.take_succ, hv, ← List.append_assoc]
        simp only [List.map_append]
        rfl
      · have hl2 : (u.2.map V.int).length ≤ j := by
          rw [List.length_map]
          exact Nat.not_lt.mp hj
        refine .inl ⟨⟨_, t2, hl2⟩, hi, s2, ?_⟩
        rw [d2, fl_take hu, List.take_of_length_le (Nat.not_lt.mp hj)]
    · have hi2 : i = ws.length := by omega
      subst hi2
      rw [List.take_length] at d1
      refine .inl ⟨⟨_, t1, by rw [List.length_map]; exact Nat.le_refl _⟩, D, fl ws, rfl, .inl (lst_of d1), hz, fun H2 p e2 h2 => k _ _ (Same.trans s1 e2) h2⟩
theorem cl_product_of (T : Txt K mg) : Cl P w K mg base 2 "product_of" (spJoined K) := by
  obtain ⟨f, fd, F, hm, hb⟩ := T.f_product_of
  exact cl_of (ok_product_of F T) hm F.kp hb
def spRep (K : PySem.W.Frag) (ok : Int → Prop) : Sp := fun vs H Q _ => ∃ (n : Int) (a : Addr) (ns : List Int) (m : Int), vs = [.ref a, .int m] ∧ SqT K H a (ns.map V.int) ∧ Wd n ns ∧ ns.length ≤ 200 ∧ m ≤ 50 ∧ -50 ≤ m ∧ ok m ∧
  ∀ H' p, Same H H' → SqT K H' p ((Fr.red (Fr.pw ns m)).map V.int) → Q (.ref p) H'
theorem wd_opp {n : Int} {ns : List Int} (h : Wd n ns) : Wd n (Fr.opp ns) := ⟨lt_opp h.lt, Fr.nf_opp h.nf⟩
theorem pw_neg {ns : List Int} {m : Int} (h : m < 0) : Fr.pw (Fr.opp ns) (-m) = Fr.pw ns m := by
  unfold Fr.pw
  rw [if_neg (by omega), if_pos h]
theorem red_split {n : Int} {ns c m : List Int} (hw : Wd n ns) (s : Spl ns c m) (j : Nat) : Fr.red (Fr.rep ns (j + 1)) = c ++ Fr.rep m (j + 1) ++ Fr.opp c := by
  obtain ⟨s1, s2, s3⟩ := s
  by_cases hn : ns = []
  · obtain ⟨rfl, rfl⟩ := s2 hn
    subst hn
    rw [Fr.rep_nil]
    rfl
  · obtain ⟨m1, m2⟩ := s3 hn
    have hf := hw.nf
    rw [s1] at hf
    have := Fr.red_pow hf m1 m2 j
    rw [← s1] at this
    exact this
theorem spl_len {ns c m : List Int} (s : Spl ns c m) : c.length + m.length + c.length = ns.length := by
  have := congrArg List.length s.1
  rw [List.length_append, List.length_append, Fr.opp_len] at this
  omega
theorem ok_rep {k : Nat} {ok : Int → Prop} {f : Addr} {fd : FuncData} (F : Fun K "repeated" "repeated" st_repeated f fd) (T : Txt K mg) (c_repeated : Cl P w K mg base k "repeated" (spRep K fun m => ok (-m) ∧ 0 < m)) (h1k : 1 ≤ k) : FnOk P w K mg base CX0 (k + 1) f fd ["row", "many"] (spRep K ok) := by
  have c_opposite : Cl P w K mg base 1 "opposite" (spOpp K) := cl_opposite T
  have c_split_core : Cl P w K mg base 1 "split_core" (spSplit K) := cl_split_core T
  refine F.ok sc_repeated (fun vs H Q E h => ?_) (fun cdv A outer s H vs Q E hr h => ?_)
  · obtain ⟨n, a, ns, m, rfl, _⟩ := h
    rfl
  · obtain ⟨n, a, ns, m, rfl, h, hw, hz, m5, m0, hok, q⟩ := h
    refine ⟨_, (pss_cons (ps_if (pt_cmpR op_lt (pv 1) pe_int (nomark _)) (pss_one (ps_ret (pe_f c_repeated hr (by omega) rfl (pa_cons (pe_f c_opposite hr (by omega) rfl (pa_cons (pv 0) pa_nil)) (pa_cons (pe_un un_neg (pv 1)) pa_nil))))) pss_nil) (pss_cons (ps_if (pt_cmpR op_eq (pv 1) pe_int (nomark _)) (pss_one (ps_ret (pe_tup pa_nil))) pss_nil) (pss_cons (ps_asg (pe_f c_split_core hr (by omega) rfl (pa_cons (pv 0) pa_nil)) (kpg_tup (K := K) (n := 2) rfl (pgs_cons (pg_name (i := 2) sc_repeated.nd rfl (Or.inl rfl)) (pgs_cons (pg_name (i := 3) sc_repeated.nd rfl (Or.inl rfl)) pgs_nil)))) (pss_one (ps_ret (pe_op (kop_catA (K := K)) (pe_op (kop_catA (K := K)) (pv 2) (pe_op (kop_repA (K := K)) (pv 3) (pv 1))) (pe_f c_opposite hr (by omega) rfl (pa_cons (pv 2) pa_nil)))))))), ?_⟩
    refine ⟨.int m, rfl, _, _, rfl, rfl, _, rfl, ite2 (fun h1 => ?_) fun h1 => ?_⟩
    · have h1 : m < 0 := of_decide_eq_true h1
      refine ⟨.ref a, rfl, a, ns, rfl, h, by omega, fun H1 b e1 hb => ⟨.int m, rfl, m, rfl, n, b, Fr.opp ns, -m, rfl, hb, wd_opp hw, by rw [Fr.opp_len]; exact hz, by omega, by omega, ⟨by rw [Int.neg_neg]; exact hok, by omega⟩, fun H2 p e2 hp => ?_⟩⟩
      rw [pw_neg h1] at hp
      exact q _ _ (Same.trans e1 e2) hp
    · have h1 : ¬ m < 0 := fun z => h1 (decide_eq_true z)
      refine ⟨.int m, rfl, rfl, _, rfl, ?_⟩
      rw [dec_int]
      refine ite2 (fun h2 => ?_) fun h2 => ?_
      · have h2 : m = 0 := of_decide_eq_true h2
        subst h2
        exact ⟨Nat.zero_le _, fun p hp => q _ _ (new_same hp) (tup_of upd_same)⟩
      · have h2 : ¬ m = 0 := fun z => h2 (decide_eq_true z)
        obtain ⟨j, hj⟩ : ∃ j : Nat, m = ((j + 1 : Nat) : Int) := ⟨(m - 1).toNat, by omega⟩
        refine ⟨.ref a, rfl, n, a, ns, rfl, h, hw, by omega, fun H1 p pc pm c mm e1 hs hp hc hm => ?_⟩
        have hl := spl_len hs
        refine ⟨p, _, rfl, hp, rfl, _, _, rfl, _, _, rfl, rfl, ?_⟩
        refine ⟨.ref pc, rfl, .ref pm, rfl, .int m, rfl, rep_ints hm (by omega) (by omega) (by omega) fun H2 r e2 hr2 => cat_ints (same_tup e2 hc) hr2 ?_ fun H3 t e3 ht => ?_⟩
        · rw [Fr.rep_len]
          have : m.toNat * mm.length ≤ 50 * 200 := Nat.mul_le_mul (by omega) (by omega)
          omega
        · refine ⟨.ref pc, rfl, pc, c, rfl, same_tup (Same.trans e2 e3) hc, by omega, fun H4 u e4 hu => cat_ints (same_tup e4 ht) hu ?_ fun H5 v e5 hv => q _ _ (Same.trans (Same.trans (Same.trans (Same.trans e1 e2) e3) e4) e5) ?_⟩
          · rw [List.length_append, Fr.rep_len, Fr.opp_len]
            have : m.toNat * mm.length ≤ 50 * 200 := Nat.mul_le_mul (by omega) (by omega)
            omega
          · have e : Fr.pw ns m = Fr.rep ns (j + 1) := by
              unfold Fr.pw
              rw [if_neg h1]
              congr 1
              omega
            have e7 : m.toNat = j + 1 := by omega
            rw [e, red_split hw hs j, ← e7]
            exact hv
theorem cl_repeated (T : Txt K mg) : Cl P w K mg base 3 "repeated" (spRep K fun _ => True) := by
  obtain ⟨f, fd, F, hm, hb⟩ := T.f_repeated
  have c0 : Cl P w K mg base 1 "repeated" (spRep K fun m => 0 ≤ -m ∧ 0 < m) := ⟨f, fun A outer s H us vs Q E _ _ _ h => by
    obtain ⟨n, a, ns, m, _, _, _, _, _, _, ⟨h1, h2⟩, _⟩ := h
    omega, hm, F.kp⟩
  have c1 : Cl P w K mg base 2 "repeated" (spRep K fun m => 0 ≤ m) := cl_of (ok_rep (k := 1) (ok := fun m => 0 ≤ m) F T c0 (by decide)) hm F.kp hb
  exact cl_of (ok_rep (k := 2) (ok := fun _ => True) F T (c1.imp fun vs H Q E ⟨n, a, ns, m, h1, h2, h3, h4, h5, h6, h7, h8⟩ => ⟨n, a, ns, m, h1, h2, h3, h4, h5, h6, Int.le_of_lt h7.2, h8⟩) (by decide)) hm F.kp hb
def Sack3 (H : Hp) (S : Addr) : Prop := ∃ x y z : Int, H S = some (.lst [.int x, .int y, .int z])
def spSack (K : PySem.W.Frag) : Sp := fun vs H Q _ => ∃ (a : Addr) (ns : List Int) (k : Int), vs = [.ref a, .int k] ∧ SqL K H a (ns.map V.int) ∧ 0 ≤ k ∧ ∀ H' S, Same H H' → H S = none → Sack3 H' S → Q (.ref S) H'
theorem ok__law_sack {f : Addr} {fd : FuncData} (F : Fun K "_law_sack" "_law_sack" st__law_sack f fd) (T : Txt K mg) : FnOk P w K mg base CX0 1 f fd ["script", "spot"] (spSack K) := by
  refine F.ok sc__law_sack (fun vs H Q E h => ?_) (fun cdv A outer s H vs Q E hr h => ?_)
  · obtain ⟨a, ns, m, rfl, _⟩ := h
    rfl
  · obtain ⟨a, ns, m, rfl, h, m0, k⟩ := h
    refine ⟨_, (pss_cons (ps_set (i := 2) sc__law_sack.nd rfl (Or.inl rfl) (pe_ifExp (pt_cmpR op_lt (pv 1) (pe_callB (kcall_len (K := K)) (by rfl) T.n_len bo_len (pa_cons (pv 0) pa_nil)) (nomark _)) (pe_callTy call_int1 (by rfl) T.n_int bo_int (pa_cons (pe_ix (kix_list (K := K)) (pv 0) (pv 1) (fun _ _ => rfl)) pa_nil)) (pe_op op_add (pe_op op_mul pe_int (pv 1)) pe_int))) (pss_cons (ps_set (i := 3) sc__law_sack.nd rfl (Or.inl rfl) (pe_op op_mod (pe_callTy call_int1 (by rfl) T.n_int bo_int (pa_cons (pe_callB call_abs (by rfl) T.n_abs bo_abs (pa_cons (pv 2) pa_nil)) pa_nil)) (pe_op op_powG (pe_op op_powG pe_int pe_int) pe_int))) (pss_one (ps_ret (pe_lst (pa_cons (pe_callB (call_max2 rfl) (by rfl) T.n_max bo_max (pa_cons pe_int (pa_cons (pe_op op_sub (pv 3) (pe_op op_powG pe_int pe_int)) pa_nil))) (pa_cons (pe_op op_add (pe_op op_add (pe_op op_add (pe_op op_mul (pe_op op_mod (pe_callTy call_int1 (by rfl) T.n_int bo_int (pa_cons (pv 3) pa_nil)) pe_int) pe_int) (pe_op op_mul pe_int (pv 1))) (pe_op op_mul pe_int (pe_callTy call_int1 (by rfl) T.n_int bo_int (pa_cons (pe_cmpR op_lt (pv 2) pe_int (nomark _)) pa_nil)))) pe_int) (pa_cons pe_int pa_nil)))))))), ?_⟩
    refine ⟨.int m, rfl, .ref a, rfl, a, _, rfl, .inl h, _, _, rfl, rfl, _, rfl, ite2 (fun h1 => ?_) fun h1 => ?_⟩
    · have h1 : m < ((ns.map V.int).length : Nat) := of_decide_eq_true h1
      rw [List.length_map] at h1
      refine ⟨.ref a, rfl, .int m, rfl, a, _, _, _, rfl, rfl, h, at_int (j := m.toNat) (by omega) (by omega), .inl ⟨_, rfl, ?_⟩⟩
      generalize ns.getD m.toNat 0 = cell
      refine ⟨.int cell, rfl, cell, rfl, .inl ⟨_, rfl, _, _, rfl, rfl, ⟨by decide, by decide +kernel⟩, _, _, rfl, rfl, ⟨by decide, by decide +kernel⟩, _, _, rfl, rfl, (by show (0 : Int) < ((10 : Int) ^ (57 : Int).toNat) ^ (6 : Int).toNat; decide +kernel), ?_⟩⟩
      refine ⟨_, rfl, _, _, rfl, rfl, ⟨by decide, by decide +kernel⟩, _, _, rfl, rfl, _, _, rfl, ?_⟩
      refine ⟨_, rfl, .inl ⟨_, rfl, _, _, rfl, rfl, (by show (0 : Int) < 2147483477; decide), _, _, rfl, rfl, .inr ⟨by decide, by decide⟩, .int m, rfl, _, _, rfl, rfl, .inl ⟨by decide, by decide⟩, _, _, rfl, rfl, .int cell, rfl, _, _, rfl, rfl, .inr ⟨_, rfl, _, _, rfl, rfl, .inl ⟨by decide, by decide⟩, _, _, rfl, rfl, _, _, rfl, rfl, ?_⟩⟩⟩
      refine ⟨by show 3 ≤ sizeLine; decide, fun S hS => k _ _ (new_same hS) hS ⟨_, _, _, upd_same⟩⟩
    · refine ⟨.int m, rfl, _, _, rfl, rfl, .inl ⟨by decide, by decide⟩, _, _, rfl, rfl, ?_⟩
      refine ⟨_, rfl, _, rfl, .inl ⟨_, rfl, _, _, rfl, rfl, ⟨by decide, by decide +kernel⟩, _, _, rfl, rfl, ⟨by decide, by decide +kernel⟩, _, _, rfl, rfl, (by show (0 : Int) < ((10 : Int) ^ (57 : Int).toNat) ^ (6 : Int).toNat; decide +kernel), ?_⟩⟩
      refine ⟨_, rfl, _, _, rfl, rfl, ⟨by decide, by decide +kernel⟩, _, _, rfl, rfl, _, _, rfl, ?_⟩
      refine ⟨_, rfl, .inl ⟨_, rfl, _, _, rfl, rfl, (by show (0 : Int) < 2147483477; decide), _, _, rfl, rfl, .inr ⟨by decide, by decide⟩, .int m, rfl, _, _, rfl, rfl, .inl ⟨by decide, by decide⟩, _, _, rfl, rfl, _, rfl, _, _, rfl, rfl, .inr ⟨_, rfl, _, _, rfl, rfl, .inl ⟨by decide, by decide⟩, _, _, rfl, rfl, _, _, rfl, rfl, ?_⟩⟩⟩
      refine ⟨by show 3 ≤ sizeLine; decide, fun S hS => k _ _ (new_same hS) hS ⟨_, _, _, upd_same⟩⟩
theorem cl__law_sack (T : Txt K mg) : Cl P w K mg base 1 "_law_sack" (spSack K) := by
  obtain ⟨f, fd, F, hm, hb⟩ := T.f__law_sack
  exact cl_of (ok__law_sack F T) hm F.kp hb
def spDrawn : Sp := fun vs H Q _ => ∃ (S : Addr) (t : Int), vs = [.ref S, .int t] ∧ Sk H (some S) ∧ 0 < t ∧ t < 10 ^ 60 ∧ ∀ H' (r : Int), Rs (some S) H H' → 0 ≤ r → r < t → Q (.int r) H'
theorem rs_put {H H1 : Hp} {S : Addr} {x y z : Int} (r : Rs (some S) H H1) : Rs (some S) H (upd H1 S (.lst [.int x, .int y, .int z])) := ⟨r.s0, ⟨x, y, z, upd_same⟩, fun a o n e => by
  rw [upd_ne (fun q => n (by rw [q]))]
  exact r.keep a o n e⟩
theorem ok__law_drawn {f : Addr} {fd : FuncData} (F : Fun K "_law_drawn" "_law_drawn" st__law_drawn f fd) (T : Txt K mg) : FnOk P w K mg base CX0 1 f fd ["sack", "total"] spDrawn := by
  refine F.ok sc__law_drawn (fun vs H Q E h => ?_) (fun cdv A outer s H vs Q E hr h => ?_)
  · obtain ⟨S, t, rfl, _⟩ := h
    rfl
  · obtain ⟨S, t, rfl, hS, t0, t1, k⟩ := h
    have r0 : Rs (some S) H H := .of hS
    obtain ⟨a, b, c, e⟩ := hS
    have md : ∀ i : Int, 0 ≤ i % t ∧ i % t < t := fun i => ⟨Int.emod_nonneg _ (by omega), Int.emod_lt_of_pos _ t0⟩
    refine ⟨_, (pss_cons (ps_if (pt_cmpR op_gt (pe_ix (kix_list (K := K)) (pv 0) pe_int (fun _ _ => rfl)) pe_int (nomark _)) (pss_cons (ps_set (i := 2) sc__law_drawn.nd rfl (Or.inl rfl) (pe_op op_mod (pe_callTy call_int1 (by rfl) T.n_int bo_int (pa_cons (pe_ix (kix_list (K := K)) (pv 0) pe_int (fun _ _ => rfl)) pa_nil)) (pv 1))) (pss_cons (ps_asg (pe_op op_fdivW (pe_ix (kix_list (K := K)) (pv 0) pe_int (fun _ _ => rfl)) (pv 1)) (pg_sub (pv 0) pe_int set_list)) (pss_one (ps_ret (pv 2))))) pss_nil) (pss_cons (ps_asg (pe_op op_add (pe_ix (kix_list (K := K)) (pv 0) pe_int (fun _ _ => rfl)) pe_int) (pg_sub (pv 0) pe_int set_list)) (pss_cons (ps_set (i := 3) sc__law_drawn.nd rfl (Or.inl rfl) (pe_op op_mod (pe_callTy call_int1 (by rfl) T.n_int bo_int (pa_cons (pe_op op_add (pe_ix (kix_list (K := K)) (pv 0) pe_int (fun _ _ => rfl)) (pe_op op_mul pe_int (pe_ix (kix_list (K := K)) (pv 0) pe_int (fun _ _ => rfl)))) pa_nil)) pe_int)) (pss_cons (ps_set (i := 4) sc__law_drawn.nd rfl (Or.inl rfl) (pe_op op_add (pe_op op_mul (pe_op op_mod (pe_callTy call_int1 (by rfl) T.n_int bo_int (pa_cons (pe_op op_add (pe_op op_mul (pv 3) (pv 3)) (pe_op op_mul pe_int (pe_ix (kix_list (K := K)) (pv 0) pe_int (fun _ _ => rfl)))) pa_nil)) pe_int) pe_int) (pv 3))) (pss_one (ps_ret (pe_op op_mod (pe_callTy call_int1 (by rfl) T.n_int bo_int (pa_cons (pe_op op_fdivW (pv 4) pe_int) pa_nil)) (pv 1)))))))), ?_⟩
    refine ⟨.ref S, rfl, S, _, 0, .int a, rfl, rfl, lst_of e, rfl, _, _, rfl, rfl, _, rfl, ite2 (fun h1 => ?_) fun h1 => ?_⟩
    · refine ⟨.ref S, rfl, S, _, 0, .int a, rfl, rfl, lst_of e, rfl, .inl ⟨a, rfl, .int t, rfl, _, _, rfl, rfl, t0, ?_⟩⟩
      refine ⟨.ref S, rfl, S, _, 0, .int a, rfl, rfl, lst_of e, rfl, .int t, rfl, _, _, rfl, rfl, wide_div (b := 200) t0 (by omega) (by decide) (by decide), ?_⟩
      refine ⟨.ref S, rfl, S, _, 0, 0, rfl, rfl, e, rfl, ?_⟩
      exact ⟨.int (a % t), rfl, k _ _ (rs_put r0) (md a).1 (md a).2⟩
    · refine ⟨.ref S, rfl, S, _, 2, .int c, rfl, rfl, lst_of e, rfl, _, _, rfl, rfl, .ref S, rfl, S, _, 2, 2, rfl, rfl, e, rfl, ?_⟩
      refine ⟨.ref S, rfl, S, _, 1, .int b, rfl, rfl, lst_of upd_same, rfl, .ref S, rfl, S, _, 2, .int (c + 1), rfl, rfl, lst_of upd_same, rfl, _, _, rfl, rfl, .inl ⟨by decide, by decide⟩, _, _, rfl, rfl, .inl ⟨_, rfl, _, _, rfl, rfl, (by show (0 : Int) < 2305843009213693951; decide), ?_⟩⟩
      have o1 : ∀ i : Int, 0 ≤ i % 2305843009213693951 ∧ i % 2305843009213693951 < 2305843009213693951 := fun i => ⟨Int.emod_nonneg _ (by omega), Int.emod_lt_of_pos _ (by omega)⟩
      have cm : ∀ i j : Int, CMul (i % 2305843009213693951) j := fun i j => .inl ⟨by have := o1 i; omega, by have := o1 i; omega⟩
      refine ⟨_, rfl, _, rfl, _, _, rfl, rfl, cm _ _, .ref S, rfl, S, _, 2, .int (c + 1), rfl, rfl, lst_of upd_same, rfl, _, _, rfl, rfl, .inl ⟨by decide, by decide⟩, _, _, rfl, rfl, .inl ⟨_, rfl, _, _, rfl, rfl, (by show (0 : Int) < 2305843009213693951; decide), _, _, rfl, rfl, .inr ⟨by decide, by decide⟩, _, rfl, _, _, rfl, rfl, ?_⟩⟩
      refine ⟨_, rfl, _, _, rfl, rfl, ⟨by decide, by decide +kernel⟩, .inl ⟨_, rfl, .int t, rfl, _, _, rfl, rfl, t0, ?_⟩⟩
      exact k _ _ (rs_put r0) (md _).1 (md _).2
theorem cl__law_drawn (T : Txt K mg) : Cl P w K mg base 1 "_law_drawn" spDrawn := by
  obtain ⟨f, fd, F, hm, hb⟩ := T.f__law_drawn
  exact cl_of (ok__law_drawn F T) hm F.kp hb
def spLBare (K : PySem.W.Frag) : Sp := fun vs H Q _ => ∃ (a : Addr) (ns : List Int), vs = [.ref a] ∧ SqA K H a (ns.map V.int) ∧ ns.length ≤ 20000 ∧ ∀ H' p, Same H H' → SqT K H' p ((Fr.red ns).map V.int) → Q (.ref p) H'
theorem ok__law_bare {f : Addr} {fd : FuncData} (F : Fun K "_law_bare" "_law_bare" st__law_bare f fd) (T : Txt K mg) : FnOk P w K mg base CX0 1 f fd ["row"] (spLBare K) := by
  refine F.ok sc__law_bare (fun vs H Q E h => ?_) (fun cdv A outer s H vs Q E hr h => ?_)
  · obtain ⟨a, ns, rfl, _⟩ := h
    rfl
  · obtain ⟨a, ns, rfl, h, hz, k⟩ := h
    let Pv : Addr → Nat → L2.St → Hp → Prop := fun l i σ H' => H l = none ∧ Same H H' ∧ H' l = some (.lst (kp ns i)) ∧ ∃ x, σ = [some (.ref a), some (.ref l), x]
    have zl : ∀ {j : Nat}, j ≤ ns.length → j < sizeLine := fun hj => Nat.lt_of_le_of_lt (Nat.le_trans hj hz) (by decide)
    have last : ∀ (l : Addr) (σ : L2.St) (H' : Hp), Pv l (ns.map V.int).length σ H' → (tRet (tCB (rTupOf K) (tCons (tVar 1) tNil))) { nx := fun _ H' => Q .non H', rt := Q } σ H' := fun l σ H' ⟨hl, s1, d1, x, es⟩ => by
      subst es
      refine ⟨.ref l, rfl, l, _, rfl, .inl ⟨lst_of d1, fun q hq => k _ _ (Same.trans s1 (new_same hq)) (tup_of ?_)⟩⟩
      rw [upd_same, List.length_map, kp_end]
    rcases h with h | h
    · refine ⟨_, (pss_cons (ps_set (i := 1) sc__law_bare.nd rfl (Or.inl rfl) (pe_lst pa_nil)) (pss_cons (ps_for PassesOwn.never rfl (kpi_list (K := K) (pv 0)) (pg_name (i := 2) sc__law_bare.nd rfl (Or.inl rfl)) (pss_one (ps_if (PW.pt (pw_and (pt_cmpR (kop_neD (K := K) hr.units) (pv 1) (pe_lst pa_nil) (nomark _)) (pw_and1 (pt_cmpR op_eq (pe_ix (kix_list (K := K)) (pv 1) (pe_un un_neg pe_int) (fun _ _ => rfl)) (pe_op op_sub pe_int (pv 2)) (nomark _))))) (pss_one (ps_expr (pe_bm0 PySem.F.plainAttrs_list PySem.F.slot_list_pop PySem.F.type_list_pop mt_pop (pv 1)))) (pss_one (ps_expr (pe_bm PySem.F.plainAttrs_list PySem.F.slot_list_append PySem.F.type_list_append mt_append (pv 1) (pa_cons (pv 2) pa_nil))))))) (pss_one (ps_ret (pe_callTy (kcall_tuple (K := K)) (by rfl) T.n_tuple bo_tuple (pa_cons (pv 1) pa_nil)))))), ?_⟩
      refine ⟨Nat.zero_le _, fun l hl => ⟨.ref a, rfl, a, rfl, ⟨_, (Rs.same (S := none) True.intro (new_same hl)).lst (fun q => nomatch q) h⟩, for_list (K := K) (a := a) (xs := ns.map V.int) (Pv l) ⟨hl, new_same hl, upd_same, none, rfl⟩ (fun i σ H' _ p => (Rs.same (S := none) True.intro p.2.1).lst (fun q => nomatch q) h) (fun i x σ H' hx p => ?_) fun σ H' p => last l σ H' p⟩⟩
      obtain ⟨_, s1, d1, y, rfl⟩ := p
      obtain ⟨e, he, rfl⟩ := get_int hx
      have at1 := act_take he
      have hlt : (kp ns i).length < sizeLine := zl (kp_len ns i)
      refine ⟨.ref l, rfl, Nat.zero_le _, fun z hz0 => ?_⟩
      have nz : l ≠ z := fun q => by rw [q, hz0] at d1; cases d1
      have s2 := Same.trans s1 (new_same (o := .lst []) hz0)
      have d2 : upd H' z (.lst []) l = some (.lst (kp ns i)) := by rw [upd_ne nz]; exact d1
      have ez : upd H' z (.lst []) z = some (.lst (([] : List Int).map V.int)) := upd_same
      generalize upd H' z (.lst []) = H2 at s2 d2 ez
      refine ne_list (lst_of d2) (lst_of ez) ⟨_, rfl, ?_⟩
      cases q : Fr.act (ns.take i) [] with
      | nil =>
        have ek : kp ns i = [] := by unfold kp; rw [q]; rfl
        have ek1 : kp ns (i + 1) = [.int e] := by unfold kp; rw [at1, q]; rfl
        refine ⟨.ref l, rfl, .inl ⟨rfl, _, SqL.of d2⟩, .int e, rfl, l, _, _, rfl, rfl, d2, hlt, hl, same_mut s2 hl, ?_, some (.int e), rfl⟩
        rw [upd_same, ek, ek1]
        rfl
      | cons y1 t =>
        have ek : kp ns i = (t.reverse.map V.int) ++ [.int y1] := by unfold kp; rw [q, List.reverse_cons, List.map_append]; rfl
        have en : (!decide ((y1 :: t).reverse = [])) = true := by simp
        show if (!decide ((y1 :: t).reverse = [])) = true then _ else _
        rw [if_pos en]
        refine ⟨.ref l, rfl, 1, rfl, l, _, _, .int y1, rfl, rfl, lst_of d2, by rw [ek]; exact atI_last _ _, .int e, rfl, _, _, rfl, rfl, rfl, _, rfl, ?_⟩
        refine ite2 (fun h1 => ?_) fun h1 => ?_
        · have h1 : y1 = -e := by have := V.int.inj (of_decide_eq_true h1); omega
          have ek1 : kp ns (i + 1) = t.reverse.map V.int := by unfold kp; rw [at1, q, Fr.push_eq h1]
          refine ⟨.ref l, rfl, .inl ⟨rfl, _, SqL.of d2⟩, l, _, .int y1, rfl, rfl, d2, by rw [ek]; simp, hl, same_mut s2 hl, ?_, some (.int e), rfl⟩
          rw [upd_same, ek, ek1, List.dropLast_concat]
        · have h1 : ¬ y1 = -e := fun z => h1 (decide_eq_true (congrArg V.int (by omega)))
          have ek1 : kp ns (i + 1) = kp ns i ++ [.int e] := by unfold kp; rw [at1, q, Fr.push_on h1, List.reverse_cons, List.map_append]; rfl
          refine ⟨.ref l, rfl, .inl ⟨rfl, _, SqL.of d2⟩, .int e, rfl, l, _, _, rfl, rfl, d2, hlt, hl, same_mut s2 hl, ?_, some (.int e), rfl⟩
          rw [upd_same, ek1]
    · refine ⟨_, (pss_cons (ps_set (i := 1) sc__law_bare.nd rfl (Or.inl rfl) (pe_lst pa_nil)) (pss_cons (ps_for PassesOwn.never rfl (kpi_tup (K := K) (pv 0)) (pg_name (i := 2) sc__law_bare.nd rfl (Or.inl rfl)) (pss_one (ps_if (PW.pt (pw_and (pt_cmpR (kop_neD (K := K) hr.units) (pv 1) (pe_lst pa_nil) (nomark _)) (pw_and1 (pt_cmpR op_eq (pe_ix (kix_list (K := K)) (pv 1) (pe_un un_neg pe_int) (fun _ _ => rfl)) (pe_op op_sub pe_int (pv 2)) (nomark _))))) (pss_one (ps_expr (pe_bm0 PySem.F.plainAttrs_list PySem.F.slot_list_pop PySem.F.type_list_pop mt_pop (pv 1)))) (pss_one (ps_expr (pe_bm PySem.F.plainAttrs_list PySem.F.slot_list_append PySem.F.type_list_append mt_append (pv 1) (pa_cons (pv 2) pa_nil))))))) (pss_one (ps_ret (pe_callTy (kcall_tuple (K := K)) (by rfl) T.n_tuple bo_tuple (pa_cons (pv 1) pa_nil)))))), ?_⟩
      refine ⟨Nat.zero_le _, fun l hl => ⟨.ref a, rfl, a, rfl, ⟨_, same_tup (new_same hl) h⟩, for_tup (K := K) (a := a) (xs := ns.map V.int) (Pv l) ⟨hl, new_same hl, upd_same, none, rfl⟩ (fun i σ H' _ p => same_tup p.2.1 h) (fun i x σ H' hx p => ?_) fun σ H' p => last l σ H' p⟩⟩
      obtain ⟨_, s1, d1, y, rfl⟩ := p
      obtain ⟨e, he, rfl⟩ := get_int hx
      have at1 := act_take he
      have hlt : (kp ns i).length < sizeLine := zl (kp_len ns i)
      refine ⟨.ref l, rfl, Nat.zero_le _, fun z hz0 => ?_⟩
      have nz : l ≠ z := fun q => by rw [q, hz0] at d1; cases d1
      have s2 := Same.trans s1 (new_same (o := .lst []) hz0)
      have d2 : upd H' z (.lst []) l = some (.lst (kp ns i)) := by rw [upd_ne nz]; exact d1
      have ez : upd H' z (.lst []) z = some (.lst (([] : List Int).map V.int)) := upd_same
      generalize upd H' z (.lst []) = H2 at s2 d2 ez
      refine ne_list (lst_of d2) (lst_of ez) ⟨_, rfl, ?_⟩
      cases q : Fr.act (ns.take i) [] with
      | nil =>
        have ek : kp ns i = [] := by unfold kp; rw [q]; rfl
        have ek1 : kp ns (i + 1) = [.int e] := by unfold kp; rw [at1, q]; rfl
        refine ⟨.ref l, rfl, .inl ⟨rfl, _, SqL.of d2⟩, .int e, rfl, l, _, _, rfl, rfl, d2, hlt, hl, same_mut s2 hl, ?_, some (.int e), rfl⟩
        rw [upd_same, ek, ek1]
        rfl
      | cons y1 t =>
        have ek : kp ns i = (t.reverse.map V.int) ++ [.int y1] := by unfold kp; rw [q, List.reverse_cons, List.map_append]; rfl
        have en : (!decide ((y1 :: t).reverse = [])) = true := by simp
        show if (!decide ((y1 :: t).reverse = [])) = true then _ else _
        rw [if_pos en]
        refine ⟨.ref l, rfl, 1, rfl, l, _, _, .int y1, rfl, rfl, lst_of d2, by rw [ek]; exact atI_last _ _, .int e, rfl, _, _, rfl, rfl, rfl, _, rfl, ?_⟩
        refine ite2 (fun h1 => ?_) fun h1 => ?_
        · have h1 : y1 = -e := by have := V.int.inj (of_decide_eq_true h1); omega
          have ek1 : kp ns (i + 1) = t.reverse.map V.int := by unfold kp; rw [at1, q, Fr.push_eq h1]
          refine ⟨.ref l, rfl, .inl ⟨rfl, _, SqL.of d2⟩, l, _, .int y1, rfl, rfl, d2, by rw [ek]; simp, hl, same_mut s2 hl, ?_, some (.int e), rfl⟩
          rw [upd_same, ek, ek1, List.dropLast_concat]
        · have h1 : ¬ y1 = -e := fun z => h1 (decide_eq_true (congrArg V.int (by omega)))
          have ek1 : kp ns (i + 1) = kp ns i ++ [.int e] := by unfold kp; rw [at1, q, Fr.push_on h1, List.reverse_cons, List.map_append]; rfl
          refine ⟨.ref l, rfl, .inl ⟨rfl, _, SqL.of d2⟩, .int e, rfl, l, _, _, rfl, rfl, d2, hlt, hl, same_mut s2 hl, ?_, some (.int e), rfl⟩
          rw [upd_same, ek1]
theorem cl__law_bare (T : Txt K mg) : Cl P w K mg base 1 "_law_bare" (spLBare K) := by
  obtain ⟨f, fd, F, hm, hb⟩ := T.f__law_bare
  exact cl_of (ok__law_bare F T) hm F.kp hb
theorem ok__law_back {f : Addr} {fd : FuncData} (F : Fun K "_law_back" "_law_back" st__law_back f fd) (T : Txt K mg) : FnOk P w K mg base CX0 1 f fd ["word"] (spOpp K) := by
  refine F.ok sc__law_back (fun vs H Q E h => ?_) (fun cdv A outer s H vs Q E hr h => ?_)
  · obtain ⟨a, ns, rfl, _⟩ := h
    rfl
  · obtain ⟨a, ns, rfl, h, hz, k⟩ := h
    refine ⟨_, (pss_one (ps_ret (pe_callTy (kcall_tuple (K := K)) (by rfl) T.n_tuple bo_tuple (pa_cons (pe_lc (own := [("entry", 1)]) rfl sc__law_back.nd (kpi_tup (K := K) (kpe_revT (K := K) (pv 0))) (blkOk_by (N := nm__law_back) (sc := defScope st__law_back) (by decide +kernel)) (fun _ _ _ _ _ => (pg_name (i := 1) sc__law_back.nd rfl (by first | exact Or.inl rfl | exact Or.inr rfl))) (fun _ _ _ _ _ => pts_nil) (fun _ _ _ _ _ => (pe_op op_sub pe_int (pv 1)))) pa_nil)))), ?_⟩
    refine ⟨.ref a, rfl, a, _, rfl, h, fun p hp => ⟨p, rfl, ⟨_, tup_of upd_same⟩, fun D hD => lc_tup (K := K) (a := p) (xs := (ns.map V.int).reverse) (fun i H' => Same (upd H p (.tup (ns.map V.int).reverse)) H' ∧ H' D = some (.lst (((ns.reverse.take i).map fun x => -x).map V.int))) ⟨new_same hD, upd_same⟩ (fun i H' _ q => same_tup q.1 (tup_of upd_same)) (fun i x H' hx q => ?_) fun H' q => ?_⟩⟩
    · rw [← List.map_reverse] at hx
      have hi : i < ns.length := by
        have := (List.getElem?_eq_some_iff.mp hx).1
        rw [List.length_map, List.length_reverse] at this
        exact this
      rw [List.getElem?_map] at hx
      cases z : ns.reverse[i]? with
      | none => rw [z] at hx; cases hx
      | some e =>
        rw [z] at hx
        cases hx
        refine ⟨rfl, .int e, rfl, _, _, rfl, rfl, _, q.2, Nat.lt_of_le_of_lt (Nat.le_trans (by rw [List.length_map, List.length_map, List.length_take]; omega) hz) (by decide), same_mut q.1 hD, ?_⟩
        rw [upd_same, opp_take ns i e z, List.map_append]
        show some (HO.lst (_ ++ [V.int (0 - e)])) = some (HO.lst (_ ++ [V.int (-e)]))
        rw [Int.zero_sub]
    · refine ⟨D, _, rfl, .inl ⟨lst_of q.2, fun l hl => k _ _ (Same.trans (Same.trans (new_same hp) q.1) (new_same hl)) (tup_of ?_)⟩⟩
      rw [upd_same, List.length_reverse, List.length_map, opp_all]
theorem cl__law_back (T : Txt K mg) : Cl P w K mg base 1 "_law_back" (spOpp K) := by
  obtain ⟨f, fd, F, hm, hb⟩ := T.f__law_back
  exact cl_of (ok__law_back F T) hm F.kp hb
def spWord (K : PySem.W.Frag) : Sp := fun vs H Q _ => ∃ (S : Addr) (n m : Int), vs = [.ref S, .int n, .int m] ∧ Sk H (some S) ∧ 1 ≤ n ∧ n ≤ 5 ∧ 0 ≤ m ∧ m ≤ 1000 ∧ ∀ H' p ns, Rs (some S) H H' → SqT K H' p (ns.map V.int) → Wd n ns → (ns.length : Int) ≤ m → Q (.ref p) H'
theorem letter_of {n r s : Int} (n5 : n ≤ 5) (a0 : 0 ≤ r) (a1 : r < n) (b0 : 0 ≤ s) (b1 : s < 2) : (1 + r) * (1 - 2 * s) ≠ 0 ∧ -n ≤ (1 + r) * (1 - 2 * s) ∧ (1 + r) * (1 - 2 * s) ≤ n := by
  have : s = 0 ∨ s = 1 := by omega
  rcases this with h | h <;> subst h <;> omega
theorem sk_upd {H : Hp} {S l : Addr} {o : HO} (h : Sk H (some S)) (n : S ≠ l) : Sk (upd H l o) (some S) := by
  obtain ⟨a, b, c, e⟩ := h
  exact ⟨a, b, c, by rw [upd_ne n]; exact e⟩
theorem rs_new {H : Hp} {S l : Addr} {o : HO} (h : Sk H (some S)) (hl : H l = none) : Rs (some S) H (upd H l o) := .same h (new_same hl)
theorem sk_ne {H : Hp} {S l : Addr} (h : Sk H (some S)) (hl : H l = none) : S ≠ l := fun q => by
  subst q
  obtain ⟨a, b, c, e⟩ := h
  rw [hl] at e
  cases e
/-- a list that was not there changes -/
theorem rs_mut {H H1 : Hp} {S l : Addr} {o : HO} (r : Rs (some S) H H1) (hl : H l = none) : Rs (some S) H (upd H1 l o) := ⟨r.s0, sk_upd r.s1 (sk_ne r.s0 hl), fun a u n e => by
  rw [upd_ne (ne_of_none e hl)]
  exact r.keep a u n e⟩
theorem ok__law_word {f : Addr} {fd : FuncData} (F : Fun K "_law_word" "_law_word" st__law_word f fd) (T : Txt K mg) : FnOk P w K mg base CX0 2 f fd ["sack", "letters", "most"] (spWord K) := by
  have c__law_drawn : Cl P w K mg base 1 "_law_drawn" spDrawn := cl__law_drawn T
  have c__law_bare : Cl P w K mg base 1 "_law_bare" (spLBare K) := cl__law_bare T
  refine F.ok sc__law_word (fun vs H Q E h => ?_) (fun cdv A outer s H vs Q E hr h => ?_)
  · obtain ⟨S, n, m, rfl, _⟩ := h
    rfl
  · obtain ⟨S, n, m, rfl, hS, n1, n5, m0, m1, k⟩ := h
    refine ⟨_, (pss_cons (ps_set (i := 3) sc__law_word.nd rfl (Or.inl rfl) (pe_lst pa_nil)) (pss_cons (ps_for PassesOwn.never rfl (pi_range1 rfl T.n_range (pa_cons (pe_f c__law_drawn hr (by decide) rfl (pa_cons (pv 0) (pa_cons (pe_op op_add (pv 2) pe_int) pa_nil))) pa_nil)) (pg_name (i := 4) sc__law_word.nd rfl (Or.inl rfl)) (pss_one (ps_expr (pe_bm PySem.F.plainAttrs_list PySem.F.slot_list_append PySem.F.type_list_append mt_append (pv 3) (pa_cons (pe_op op_mul (pe_op op_add pe_int (pe_f c__law_drawn hr (by decide) rfl (pa_cons (pv 0) (pa_cons (pv 1) pa_nil)))) (pe_op op_sub pe_int (pe_op op_mul pe_int (pe_f c__law_drawn hr (by decide) rfl (pa_cons (pv 0) (pa_cons pe_int pa_nil)))))) pa_nil))))) (pss_one (ps_ret (pe_f c__law_bare hr (by decide) rfl (pa_cons (pv 3) pa_nil)))))), ?_⟩
    refine ⟨Nat.zero_le _, fun l hl => ?_⟩
    have nSl := sk_ne hS hl
    refine ⟨.ref S, rfl, .int m, rfl, _, _, rfl, rfl, S, _, rfl, sk_upd hS nSl, by omega, by omega, fun H1 r r1 a0 a1 => ?_⟩
    have d1 : H1 l = some (.lst []) := r1.keep _ _ (fun q => nSl (Option.some.inj q)) upd_same
    have s1 : Rs (some S) H H1 := (rs_new hS hl).tr r1
    refine ⟨r, rfl, by omega, by omega, for_range (lo := 0) (n := r.toNat) (fun i σ H' => Rs (some S) H H' ∧ ∃ es, H' l = some (.lst (es.map V.int)) ∧ es.length = i ∧ Lt n es ∧ ∃ x, σ = [some (.ref S), some (.int n), some (.int m), some (.ref l), x]) ⟨s1, [], d1, rfl, lt_nil, none, rfl⟩ (fun i σ H' hi p => ?_) fun σ H' p => ?_⟩
    · obtain ⟨s2, es, d2, el, lt2, x, rfl⟩ := p
      refine ⟨.ref l, rfl, .inl ⟨rfl, _, SqL.of d2⟩, .ref S, rfl, .int n, rfl, S, _, rfl, s2.s1, by omega, by omega, fun H2 u r2 b0 b1 => ?_⟩
      refine ⟨_, _, rfl, rfl, .ref S, rfl, S, _, rfl, r2.s1, by omega, by omega, fun H3 v r3 c0 c1 => ?_⟩
      have s3 := (s2.tr r2).tr r3
      have d3 : H3 l = some (.lst (es.map V.int)) := (r2.tr r3).keep _ _ (fun q => nSl (Option.some.inj q)) d2
      refine ⟨_, _, rfl, rfl, .inl ⟨by decide, by decide⟩, _, _, rfl, rfl, _, _, rfl, rfl, .inl ⟨by omega, by omega⟩, l, _, _, rfl, rfl, d3, small1000 (by rw [List.length_map]; omega), ?_⟩
      refine ⟨rs_mut s3 hl, es ++ [(1 + u) * (1 - 2 * v)], ?_, by rw [List.length_append, el]; rfl, lt_app lt2 fun i hi => ?_, some (.int (0 + i)), rfl⟩
      · rw [upd_same, List.map_append]
        rfl
      · rw [List.mem_singleton.mp hi]
        exact letter_of n5 b0 b1 c0 c1
    · obtain ⟨s2, es, d2, el, lt2, x, rfl⟩ := p
      refine ⟨.ref l, rfl, l, es, rfl, .inl (lst_of d2), by omega, fun H2 p e2 hp => k _ _ _ (s2.tr (.same s2.s1 e2)) hp (wd_red lt2) ?_⟩
      have := len_red es
      omega
theorem cl__law_word (T : Txt K mg) : Cl P w K mg base 2 "_law_word" (spWord K) := by
  obtain ⟨f, fd, F, hm, hb⟩ := T.f__law_word
  exact cl_of (ok__law_word F T) hm F.kp hb
theorem ws_one {H : Hp} {n : Int} {a : Addr} {ns : List Int} (h : SqT K H a (ns.map V.int)) (hw : Wd n ns) (hl : ns.length ≤ 200) : Ws K H n [(a, ns)] := fun p hp => by
  rw [List.mem_singleton.mp hp]
  exact ⟨h, hw, hl⟩
theorem ws_two {H : Hp} {n : Int} {a b : Addr} {ns ms : List Int} (h : SqT K H a (ns.map V.int)) (hw : Wd n ns) (hl : ns.length ≤ 200) (g : SqT K H b (ms.map V.int)) (gw : Wd n ms) (gl : ms.length ≤ 200) : Ws K H n [(a, ns), (b, ms)] := fun p hp => by
  rcases List.mem_cons.mp hp with q | q
  · rw [q]; exact ⟨h, hw, hl⟩
  · rw [List.mem_singleton.mp q]; exact ⟨g, gw, gl⟩
theorem small200 {d : Nat} (h : d ≤ 1000) : ((d : Nat) : Int).natAbs < 2 ^ 200 := Nat.lt_of_le_of_lt h (by decide +kernel)
theorem spl_rg {ns c m : List Int} (h : Spl ns c m) : Rg.Spl ns c m := h
def spLeastP (K : PySem.W.Frag) : Sp := fun vs H Q _ => ∃ (a : Addr) (ns : List Int), vs = [.ref a] ∧ SqT K H a (ns.map V.int) ∧ ns ≠ [] ∧ ns.length ≤ 1000 ∧ ∀ H' p, Same H H' → Rg.IsRt ns p → Q (.int ((p : Nat) : Int)) H'
theorem ok_least_period {f : Addr} {fd : FuncData} (F : Fun K "least_period" "least_period" st_least_period f fd) (T : Txt K mg) : FnOk P w K mg base CX0 1 f fd ["row"] (spLeastP K) := by
  refine F.ok sc_least_period (fun vs H Q E h => ?_) (fun cdv A outer s H vs Q E hr h => ?_)
  · obtain ⟨a, ns, rfl, _⟩ := h
    rfl
  · obtain ⟨a, ns, rfl, h, hne, hz, k⟩ := h
    have hp := List.length_pos_iff.mpr hne
    refine ⟨_, (pss_cons (ps_set (i := 1) sc_least_period.nd rfl (Or.inl rfl) (pe_callB (kcall_len (K := K)) (by rfl) T.n_len bo_len (pa_cons (pv 0) pa_nil))) (pss_cons (ps_set (i := 2) sc_least_period.nd rfl (Or.inl rfl) pe_int) (pss_cons (ps_while PassesOwn.never (pt_cmpR (kop_neD (K := K) hr.units) (pe_op (kop_repA (K := K)) (pe_slice (ksl_tupA (K := K)) (pv 0) po_none (po_some (pv 2))) (pe_op op_fdivW (pv 1) (pv 2))) (pv 0) (nomark _)) (pss_one (ps_aug (i := 2) sc_least_period.nd rfl (Or.inl rfl) pe_int ip_add))) (pss_one (ps_ret (pv 2)))))), ?_⟩
    refine ⟨.ref a, rfl, a, _, rfl, .inr h, ?_⟩
    rw [List.length_map]
    refine ⟨fun m σ H' => ∃ d : Nat, m = ns.length - d ∧ 0 < d ∧ d ≤ ns.length ∧ (∀ q, 0 < q → q < d → Fr.rep (ns.take q) (ns.length / q) ≠ ns) ∧ Same H H' ∧ σ = [some (.ref a), some (.int (ns.length : Int)), some (.int (d : Int))], ⟨_, 1, rfl, by decide, hp, fun q q0 q1 => by omega, Same.refl _, rfl⟩, fun m σ H' w => ?_⟩
    obtain ⟨d, rfl, d0, dl, hd, s1, rfl⟩ := w
    have hq : (ns.length : Int) / (d : Int) = ((ns.length / d : Nat) : Int) := (Int.natCast_ediv _ _).symm
    have hq0 : 0 < ns.length / d := Nat.div_pos dl d0
    have hq1 : ns.length / d ≤ ns.length := Nat.div_le_self _ _
    refine ⟨.ref a, rfl, nopart ⟨.int (d : Int), rfl, _, rfl, sl_ints (same_tup s1 h) fun H1 p1 e1 h1 => ⟨.int (ns.length : Int), rfl, .int (d : Int), rfl, _, _, rfl, rfl, wide_div (b := 200) (by show (0 : Int) < (d : Int); omega) (small200 (by omega)) (by decide) (by decide), ?_⟩⟩⟩
    rw [cutI_to] at h1
    have hv : (fun i j : Int => V.int (i / j)) (ns.length : Int) (d : Int) = .int ((ns.length / d : Nat) : Int) := congrArg V.int hq
    rw [hv]
    refine rep_ints h1 (by omega) (by omega) (by rw [List.length_take]; omega) fun H2 p2 e2 h2 => ⟨.ref a, rfl, ne_tup h2 (same_tup (Same.trans (Same.trans s1 e1) e2) h) ⟨_, rfl, ?_⟩⟩
    rw [Int.toNat_natCast]
    have e02 := Same.trans (Same.trans s1 e1) e2
    refine ite2 (fun g => ?_) fun g => ?_
    · have g : ¬ Fr.rep (ns.take d) (ns.length / d) = ns := by simpa using g
      have hdn : d < ns.length := by
        refine Nat.lt_of_le_of_ne dl fun q => g ?_
        rw [q, List.take_length, Nat.div_self hp]
        rfl
      refine ⟨fun σ' H2 => Same H H2 ∧ σ' = [some (.ref a), some (.int (ns.length : Int)), some (.int ((d : Int) + 1))], fun σ' H2 ⟨z1, z2⟩ => ⟨ns.length - (d + 1), by omega, d + 1, rfl, by omega, by omega, fun q q0 q1 => ?_, z1, z2⟩, .int (d : Int), rfl, _, _, rfl, rfl, e02, rfl⟩
      by_cases z : q = d
      · subst z; exact g
      · exact hd q q0 (by omega)
    · have g : Fr.rep (ns.take d) (ns.length / d) = ns := by simpa using g
      exact ⟨.int (d : Int), rfl, k _ d e02 ⟨d0, dl, g, hd⟩⟩
theorem cl_least_period (T : Txt K mg) : Cl P w K mg base 1 "least_period" (spLeastP K) := by
  obtain ⟨f, fd, F, hm, hb⟩ := T.f_least_period
  exact cl_of (ok_least_period F T) hm F.kp hb
def spRootOf (K : PySem.W.Frag) : Sp := fun vs H Q _ => ∃ (n : Int) (a : Addr) (ns : List Int), vs = [.ref a] ∧ SqT K H a (ns.map V.int) ∧ Wd n ns ∧ ns ≠ [] ∧ ns.length ≤ 1000 ∧ ∀ H' t p r e, Same H H' → Rg.RootW ns r e → SqT K H' t [.ref p, .int ((e : Nat) : Int)] → SqT K H' p (r.map V.int) → Q (.ref t) H'
theorem ok_root_of {f : Addr} {fd : FuncData} (F : Fun K "root_of" "root_of" st_root_of f fd) (T : Txt K mg) : FnOk P w K mg base CX0 2 f fd ["row"] (spRootOf K) := by
  have c_split_core : Cl P w K mg base 1 "split_core" (spSplit K) := cl_split_core T
  have c_least_period : Cl P w K mg base 1 "least_period" (spLeastP K) := cl_least_period T
  have c_opposite : Cl P w K mg base 1 "opposite" (spOpp K) := cl_opposite T
  refine F.ok sc_root_of (fun vs H Q E h => ?_) (fun cdv A outer s H vs Q E hr h => ?_)
  · obtain ⟨n, a, ns, rfl, _⟩ := h
    rfl
  · obtain ⟨n, a, ns, rfl, h, hw, hne, hz, k⟩ := h
    refine ⟨_, (pss_cons (ps_asg (pe_f c_split_core hr (by decide) rfl (pa_cons (pv 0) pa_nil)) (kpg_tup (K := K) (n := 2) rfl (pgs_cons (pg_name (i := 1) sc_root_of.nd rfl (Or.inl rfl)) (pgs_cons (pg_name (i := 2) sc_root_of.nd rfl (Or.inl rfl)) pgs_nil)))) (pss_cons (ps_set (i := 3) sc_root_of.nd rfl (Or.inl rfl) (pe_f c_least_period hr (by decide) rfl (pa_cons (pv 2) pa_nil))) (pss_one (ps_ret (pe_tup (pa_cons (pe_op (kop_catA (K := K)) (pe_op (kop_catA (K := K)) (pv 1) (pe_slice (ksl_tupA (K := K)) (pv 2) po_none (po_some (pv 3)))) (pe_f c_opposite hr (by decide) rfl (pa_cons (pv 1) pa_nil))) (pa_cons (pe_op op_fdivW (pe_callB (kcall_len (K := K)) (by rfl) T.n_len bo_len (pa_cons (pv 2) pa_nil)) (pv 3)) pa_nil))))))), ?_⟩
    refine ⟨.ref a, rfl, n, a, ns, rfl, h, hw, by omega, fun H1 p pc pm c m e1 hs hp hc hm => ⟨p, _, rfl, hp, rfl, _, _, rfl, _, _, rfl, rfl, ?_⟩⟩
    have ll := spl_len hs
    have mn : m ≠ [] := (hs.2.2 hne).1
    refine ⟨.ref pm, rfl, pm, m, rfl, hm, mn, by omega, fun H2 d e2 hd => ?_⟩
    have d0 := hd.1
    have dl := hd.2.1
    refine ⟨.ref pc, rfl, .ref pm, rfl, nopart ⟨.int (d : Int), rfl, _, rfl, sl_ints (same_tup e2 hm) fun H3 p3 e3 h3 => ?_⟩⟩
    rw [cutI_to] at h3
    refine cat_ints (same_tup (Same.trans e2 e3) hc) h3 (by rw [List.length_take]; omega) fun H4 p4 e4 h4 => ⟨.ref pc, rfl, pc, c, rfl, same_tup (Same.trans (Same.trans e2 e3) e4) hc, by omega, fun H5 p5 e5 h5 => cat_ints (same_tup e5 h4) h5 (by rw [List.length_append, List.length_take, Fr.opp_len]; omega) fun H6 p6 e6 h6 => ?_⟩
    have e26 := Same.trans (Same.trans (Same.trans (Same.trans e2 e3) e4) e5) e6
    refine ⟨.ref pm, rfl, pm, _, rfl, .inr (same_tup e26 hm), .int (d : Int), rfl, _, _, rfl, rfl, wide_div (b := 200) (by show (0 : Int) < (d : Int); omega) (small200 (by omega)) (by decide) (by decide), by show 2 ≤ sizeLine; decide, fun t ht => ?_⟩
    have hv : (fun i j : Int => V.int (i / j)) (((m.map V.int).length : Nat) : Int) (d : Int) = .int ((m.length / d : Nat) : Int) := by
      rw [List.length_map]
      exact congrArg V.int (Int.natCast_ediv _ _).symm
    rw [hv]
    exact k _ t p6 _ _ (Same.trans (Same.trans e1 e26) (new_same ht)) ⟨c, m, d, spl_rg hs, hne, hd, rfl, rfl⟩ (tup_of upd_same) (same_tup (new_same ht) h6)
theorem cl_root_of (T : Txt K mg) : Cl P w K mg base 2 "root_of" (spRootOf K) := by
  obtain ⟨f, fd, F, hm, hb⟩ := T.f_root_of
  exact cl_of (ok_root_of F T) hm F.kp hb
def spIsRep (K : PySem.W.Frag) : Sp := fun vs H Q _ => ∃ (n : Int) (a b : Addr) (ns bs : List Int) (e : Int), vs = [.ref a, .ref b, .int e] ∧ SqT K H a (ns.map V.int) ∧ ns.length ≤ 50 ∧ SqT K H b (bs.map V.int) ∧ Wd n bs ∧ bs.length ≤ 200 ∧ ∀ H', Same H H' → Q (.bl (decide (Fr.red (Fr.pw bs e) = ns))) H'
theorem pw_nil (e : Int) : Fr.pw [] e = [] := by
  unfold Fr.pw
  split
  · exact Fr.rep_nil _
  · exact Fr.rep_nil _
theorem pw_long {n e : Int} {bs : List Int} (hw : Wd n bs) (hb : bs ≠ []) : (if e < 0 then -e else e).toNat ≤ (Fr.red (Fr.pw bs e)).length := by
  unfold Fr.pw
  split
  · have w2 := wd_opp hw
    exact Rg.pow_long w2.nf (fun x hx => (w2.lt x hx).1) (fun q => hb (Rg.opp_nil_iff q)) _
  · exact Rg.pow_long hw.nf (fun x hx => (hw.lt x hx).1) hb _
theorem ok_is_repeated {f : Addr} {fd : FuncData} (F : Fun K "is_repeated" "is_repeated" st_is_repeated f fd) (T : Txt K mg) : FnOk P w K mg base CX0 4 f fd ["row", "base", "many"] (spIsRep K) := by
  have c_repeated : Cl P w K mg base 3 "repeated" (spRep K fun _ => True) := cl_repeated T
  refine F.ok sc_is_repeated (fun vs H Q E h => ?_) (fun cdv A outer s H vs Q E hr h => ?_)
  · obtain ⟨n, a, b, ns, bs, e, rfl, _⟩ := h
    rfl
  · obtain ⟨n, a, b, ns, bs, e, rfl, h, hl, g, hw, gl, k⟩ := h
    refine ⟨_, (pss_cons (ps_if (pt_cmpR (kop_eqD (K := K) hr.units) (pv 1) (pe_tup pa_nil) (nomark _)) (pss_one (ps_ret (pe_cmpR (kop_eqD (K := K) hr.units) (pv 0) (pe_tup pa_nil) (nomark _)))) pss_nil) (pss_cons (ps_if (pt_cmpR op_gt (pe_callB call_abs (by rfl) T.n_abs bo_abs (pa_cons (pv 2) pa_nil)) (pe_callB (kcall_len (K := K)) (by rfl) T.n_len bo_len (pa_cons (pv 0) pa_nil)) (nomark _)) (pss_one (ps_ret pe_bl)) pss_nil) (pss_one (ps_ret (pe_cmpR (kop_eqD (K := K) hr.units) (pe_f c_repeated hr (by decide) rfl (pa_cons (pv 1) (pa_cons (pv 2) pa_nil))) (pv 0) (nomark _)))))), ?_⟩
    refine ⟨.ref b, rfl, Nat.zero_le _, fun z hz => eq_tup (ms := []) (same_tup (new_same hz) g) (tup_of upd_same) ⟨_, rfl, ?_⟩⟩
    have e0 := new_same (o := .tup []) hz
    generalize upd H z (.tup []) = H1 at e0
    refine ite2 (fun i1 => ?_) fun i1 => ?_
    · have i1 : bs = [] := of_decide_eq_true i1
      subst i1
      refine ⟨.ref a, rfl, Nat.zero_le _, fun z hz => eq_tup (ms := []) (same_tup (Same.trans e0 (new_same hz)) h) (tup_of upd_same) ?_⟩
      have := k _ (Same.trans e0 (new_same (o := .tup []) hz))
      rw [pw_nil] at this
      rw [show decide (ns = []) = decide (Fr.red [] = ns) from decide_eq_decide.mpr ⟨fun q => q.symm, fun q => q.symm⟩]
      exact this
    · have i1 : bs ≠ [] := fun q => i1 (decide_eq_true q)
      have hpl := pw_long (e := e) hw i1
      refine ⟨.int e, rfl, e, rfl, .ref a, rfl, a, _, rfl, .inr (same_tup e0 h), _, _, rfl, rfl, _, rfl, ite2 (fun i2 => ?_) fun i2 => ?_⟩
      · have i2 := of_decide_eq_true i2
        rw [List.length_map] at i2
        have := k _ e0
        rw [show decide (Fr.red (Fr.pw bs e) = ns) = false from decide_eq_false fun q => by rw [q] at hpl; omega] at this
        exact this
      · have i2 : ¬ ((ns.length : Nat) : Int) < (if e < 0 then -e else e) := fun q => i2 (decide_eq_true (by rw [List.length_map]; exact q))
        have : -50 ≤ e ∧ e ≤ 50 := by split at i2 <;> omega
        refine ⟨.ref b, rfl, .int e, rfl, n, b, bs, e, rfl, same_tup e0 g, hw, gl, this.2, this.1, True.intro, fun H2 p e2 hp => ⟨.ref a, rfl, eq_tup hp (same_tup (Same.trans e0 e2) h) (k _ (Same.trans e0 e2))⟩⟩
theorem cl_is_repeated (T : Txt K mg) : Cl P w K mg base 4 "is_repeated" (spIsRep K) := by
  obtain ⟨f, fd, F, hm, hb⟩ := T.f_is_repeated
  exact cl_of (ok_is_repeated F T) hm F.kp hb
theorem asg_join {te : TE} {g : TG} {u : TS} {D : Ends} {σ : L2.St} {H : Hp} (P : V → Hp → Prop) (hc : ∀ Q' : VK, (∀ v H, P v H → Q' v H) → te σ H Q') (rest : ∀ v H, P v H → g v σ H (u D)) : tSeq (tAsg te g) u D σ H := hc _ rest
theorem ifs_join {c : TT} {t u x : TS} {D : Ends} {σ : L2.St} {H : Hp} (P : Bool → Hp → Prop) (hc : ∀ Q' : Bool → Hp → Prop, (∀ b H, P b H → Q' b H) → c σ H Q') (rest : ∀ b H, P b H → if b = true then t { D with nx := x D } σ H else u { D with nx := x D } σ H) : tSeq (tIfS c t u) x D σ H := hc _ rest
theorem c_part {v : V} {σ : L2.St} {H : Hp} {Q : VK} (h : Q v H) : tC v σ H Q := h
theorem nodiff {α : Type} [DecidableEq α] (x : α) : (!decide (x = x)) = false := by simp
theorem add_is {H : Hp} {Q : VK} {i j v : Int} (e : i + j = v) (q : Q (.int v) H) : rI0 (fun i j => V.int (i + j)) (.int i) (.int j) H Q := ⟨i, j, rfl, rfl, by subst e; exact q⟩
theorem sub_is {H : Hp} {Q : VK} {i j v : Int} (e : i - j = v) (q : Q (.int v) H) : rI0 (fun i j => V.int (i - j)) (.int i) (.int j) H Q := ⟨i, j, rfl, rfl, by subst e; exact q⟩
theorem tis2 {H : Hp} {a b : Addr} {x y : List Int} (h1 : SqT K H a (x.map V.int)) (h2 : SqT K H b (y.map V.int)) : Tis K H [(a, x), (b, y)] := fun p hp => by
  rcases List.mem_cons.mp hp with q | hp
  · rw [q]; exact h1
  · rw [List.mem_singleton.mp hp]; exact h2
theorem fl2 (a b : Addr) (x y : List Int) : fl [(a, x), (b, y)] = x ++ y := by
  show x ++ (y ++ []) = x ++ y
  rw [List.append_nil]
theorem rootw_le {w r : List Int} {e : Nat} (h : Rg.RootW w r e) : e ≤ w.length ∧ r.length ≤ w.length ∧ ∀ x, x ∈ r → x ∈ w := by
  obtain ⟨c, m, p, s, _, hp, rfl, rfl⟩ := h
  have l := congrArg List.length s.1
  rw [List.length_append, List.length_append, Fr.opp_len] at l
  have := Nat.div_le_self m.length p
  refine ⟨by omega, ?_, fun x hx => ?_⟩
  · rw [List.length_append, List.length_append, Fr.opp_len, List.length_take]
    omega
  · rw [s.1]
    rw [List.mem_append, List.mem_append] at hx ⊢
    rcases hx with (hx | hx) | hx
    · exact .inl (.inl hx)
    · exact .inl (.inr (List.mem_of_mem_take hx))
    · exact .inr hx
theorem rootw_wd {n : Int} {w r : List Int} {e : Nat} (hw : Wd n w) (h : Rg.RootW w r e) : Wd n r ∧ r ≠ [] := by
  obtain ⟨c, u, f⟩ := Rg.rootw_facts hw.nf h
  refine ⟨⟨fun i hi => hw.lt i ((rootw_le h).2.2 i hi), f.nf⟩, fun q => ?_⟩
  have := f.er
  rw [q] at this
  have := congrArg List.length this
  simp only [List.length_append, List.length_nil] at this
  exact f.cr.1 (List.eq_nil_of_length_eq_zero (by omega))
theorem pw_nat (r : List Int) (e : Nat) : Fr.pw r (e : Int) = Fr.rep r e := by
  unfold Fr.pw
  rw [if_neg (by omega), Int.toNat_natCast]
theorem pw_opp (r : List Int) (e : Nat) : Fr.pw r (-(e : Int)) = Fr.rep (Fr.opp r) e := by
  cases e with
  | zero => rfl
  | succ e =>
    unfold Fr.pw
    rw [if_pos (by omega), Int.neg_neg, Int.toNat_natCast]
def spExpo (K : PySem.W.Frag) : Sp := fun vs H Q _ => ∃ (n : Int) (a b : Addr) (ns bs : List Int), vs = [.ref b, .ref a] ∧ SqT K H a (ns.map V.int) ∧ Wd n ns ∧ ns.length ≤ 1000 ∧ SqT K H b (bs.map V.int) ∧
  ∀ H' (x : Int), Same H H' → (ns = [] ∧ x = 0 ∨ ∃ r e, Rg.RootW ns r e ∧ x = if r = bs then ((e : Nat) : Int) else -((e : Nat) : Int)) → Q (.int x) H'
theorem ok_exponent_of {f : Addr} {fd : FuncData} (F : Fun K "exponent_of" "exponent_of" st_exponent_of f fd) (T : Txt K mg) : FnOk P w K mg base CX0 3 f fd ["base", "word"] (spExpo K) := by
  have c_root_of : Cl P w K mg base 2 "root_of" (spRootOf K) := cl_root_of T
  refine F.ok sc_exponent_of (fun vs H Q E h => ?_) (fun cdv A outer s H vs Q E hr h => ?_)
  · obtain ⟨n, a, b, ns, bs, rfl, _⟩ := h
    rfl
  · obtain ⟨n, a, b, ns, bs, rfl, h, hw, hl, g, k⟩ := h
    refine ⟨_, (pss_cons (ps_if (pt_cmpR (kop_eqD (K := K) hr.units) (pv 1) (pe_tup pa_nil) (nomark _)) (pss_one (ps_ret pe_int)) pss_nil) (pss_cons (ps_asg (pe_f c_root_of hr (by decide) rfl (pa_cons (pv 1) pa_nil)) (kpg_tup (K := K) (n := 2) rfl (pgs_cons (pg_name (i := 2) sc_exponent_of.nd rfl (Or.inl rfl)) (pgs_cons (pg_name (i := 3) sc_exponent_of.nd rfl (Or.inl rfl)) pgs_nil)))) (pss_one (ps_ret (pe_ifExp (pt_cmpR (kop_eqD (K := K) hr.units) (pv 2) (pv 0) (nomark _)) (pv 3) (pe_un un_neg (pv 3))))))), ?_⟩
    refine ⟨.ref a, rfl, Nat.zero_le _, fun z hz => eq_tup (ms := []) (same_tup (new_same hz) h) (tup_of upd_same) ⟨_, rfl, ?_⟩⟩
    have e0 := new_same (o := .tup []) hz
    generalize upd H z (.tup []) = H1 at e0
    refine ite2 (fun i1 => ?_) fun i1 => ?_
    · exact k _ 0 e0 (.inl ⟨of_decide_eq_true i1, rfl⟩)
    · have i1 : ns ≠ [] := fun q => i1 (decide_eq_true q)
      refine ⟨.ref a, rfl, n, a, ns, rfl, same_tup e0 h, hw, i1, hl, fun H2 t p r e e2 hr2 ht hp => ⟨t, _, rfl, ht, rfl, _, _, rfl, _, _, rfl, rfl, ?_⟩⟩
      have e02 := Same.trans e0 e2
      refine ⟨.ref p, rfl, .ref b, rfl, eq_tup hp (same_tup e02 g) ⟨_, rfl, ?_⟩⟩
      refine ite2 (fun i2 => ?_) fun i2 => ?_
      · have i2 : r = bs := of_decide_eq_true i2
        exact ⟨.int (e : Int), rfl, k _ _ e02 (.inr ⟨r, e, hr2, by rw [if_pos i2]⟩)⟩
      · have i2 : ¬ r = bs := fun q => i2 (decide_eq_true q)
        exact ⟨.int (e : Int), rfl, _, rfl, k _ _ e02 (.inr ⟨r, e, hr2, by rw [if_neg i2]⟩)⟩
theorem cl_exponent_of (T : Txt K mg) : Cl P w K mg base 3 "exponent_of" (spExpo K) := by
  obtain ⟨f, fd, F, hm, hb⟩ := T.f_exponent_of
  exact cl_of (ok_exponent_of F T) hm F.kp hb
def spRoot (K : PySem.W.Frag) : Sp := fun vs H Q _ => ∃ (n : Int) (a : Addr) (ns : List Int), vs = [.int n, .ref a] ∧ 1 ≤ n ∧ n ≤ 5 ∧ SqT K H a (ns.map V.int) ∧ Wd n ns ∧ ns ≠ [] ∧ ns.length ≤ 200 ∧ ∀ H' t p r e, Same H H' → Rg.RootW ns r e → SqT K H' t [.ref p, .int ((e : Nat) : Int)] → SqT K H' p (r.map V.int) → Q (.ref t) H'
theorem ok_root {f : Addr} {fd : FuncData} (F : Fun K "root" "root" st_root f fd) (T : Txt K mg) : FnOk P w K mg base CX0 6 f fd ["letters", "word"] (spRoot K) := by
  have c_check_words : Cl P w K mg base 5 "check_words" (spChkWords K) := cl_check_words T
  have c_root_of : Cl P w K mg base 2 "root_of" (spRootOf K) := cl_root_of T
  refine F.ok sc_root (fun vs H Q E h => ?_) (fun cdv A outer s H vs Q E hr h => ?_)
  · obtain ⟨n, a, ns, rfl, _⟩ := h
    rfl
  · obtain ⟨n, a, ns, rfl, n1, n5, h, hw, hne, hl, k⟩ := h
    refine ⟨_, (pss_cons (ps_expr (pe_f c_check_words hr (by decide) rfl (pa_cons (pv 0) (pa_cons (pe_tup (pa_cons (pv 1) pa_nil)) pa_nil)))) (pss_cons (ps_if (pt_cmpR (kop_eqD (K := K) hr.units) (pv 1) (pe_tup pa_nil) (nomark _)) (pss_one ps_never) pss_nil) (pss_one (ps_ret (pe_f c_root_of hr (by decide) rfl (pa_cons (pv 1) pa_nil)))))), ?_⟩
    refine ⟨.int n, rfl, .ref a, rfl, by show 1 ≤ sizeLine; decide, fun t ht => ⟨n, t, [(a, ns)], rfl, n1, n5, tup_of upd_same, ws_one (same_tup (new_same ht) h) hw hl, fun H1 e1 => ?_⟩⟩
    have e0 := Same.trans (new_same (o := .tup [.ref a]) ht) e1
    refine ⟨.ref a, rfl, Nat.zero_le _, fun z hz => eq_tup (ms := []) (same_tup (Same.trans e0 (new_same hz)) h) (tup_of upd_same) ⟨_, rfl, ?_⟩⟩
    have e0 := Same.trans e0 (new_same (o := .tup []) hz)
    generalize upd H1 z (.tup []) = H2 at e0
    rw [decide_eq_false hne]
    exact ⟨.ref a, rfl, n, a, ns, rfl, same_tup e0 h, hw, hne, by omega, fun H2 t p r e e2 hr2 ht hp => k _ _ _ _ _ (Same.trans e0 e2) hr2 ht hp⟩
theorem cl_root (T : Txt K mg) : Cl P w K mg base 6 "root" (spRoot K) := by
  obtain ⟨f, fd, F, hm, hb⟩ := T.f_root
  exact cl_of (ok_root F T) hm F.kp hb
def spCommon (K : PySem.W.Frag) : Sp := fun vs H Q _ => ∃ (n : Int) (a b : Addr) (ns bs : List Int), vs = [.int n, .ref a, .ref b] ∧ 1 ≤ n ∧ n ≤ 5 ∧ SqT K H a (ns.map V.int) ∧ Wd n ns ∧ ns.length ≤ 100 ∧ SqT K H b (bs.map V.int) ∧ Wd n bs ∧ bs.length ≤ 100 ∧
  (∀ H' t p q, Same H H' → Fr.red (ns ++ bs) ≠ Fr.red (bs ++ ns) → SqT K H' t [.str "unlike", .ref p, .ref q] → SqT K H' p ((Fr.red (ns ++ bs)).map V.int) → SqT K H' q ((Fr.red (bs ++ ns)).map V.int) → Q (.ref t) H') ∧
  (∀ H' t p r e1 e2, Same H H' → Fr.red (ns ++ bs) = Fr.red (bs ++ ns) → SqT K H' t [.str "root", .ref p, .int e1, .int e2] → SqT K H' p (r.map V.int) → Wd n r → r ≠ [] → r.length ≤ 100 → -(ns.length : Int) ≤ e1 ∧ e1 ≤ ns.length → -(bs.length : Int) ≤ e2 ∧ e2 ≤ bs.length → Fr.red (Fr.pw r e1) = ns → Fr.red (Fr.pw r e2) = bs → Q (.ref t) H')
theorem ok_common_root {f : Addr} {fd : FuncData} (F : Fun K "common_root" "common_root" st_common_root f fd) (T : Txt K mg) : FnOk P w K mg base CX0 6 f fd ["letters", "one", "other"] (spCommon K) := by
  have c_check_words : Cl P w K mg base 5 "check_words" (spChkWords K) := cl_check_words T
  have c_product_of : Cl P w K mg base 2 "product_of" (spJoined K) := cl_product_of T
  have c_root_of : Cl P w K mg base 2 "root_of" (spRootOf K) := cl_root_of T
  have c_exponent_of : Cl P w K mg base 3 "exponent_of" (spExpo K) := cl_exponent_of T
  refine F.ok sc_common_root (fun vs H Q E h => ?_) (fun cdv A outer s H vs Q E hr h => ?_)
  · obtain ⟨n, a, b, ns, bs, rfl, _⟩ := h
    rfl
  · obtain ⟨n, a, b, ns, bs, rfl, n1, n5, h, hw, hl, g, gw, gl, k1, k2⟩ := h
    refine ⟨_, (pss_cons (ps_expr (pe_f c_check_words hr (by decide) rfl (pa_cons (pv 0) (pa_cons (pe_tup (pa_cons (pv 1) (pa_cons (pv 2) pa_nil))) pa_nil)))) (pss_cons (ps_par (i := 3) (j := 4) rfl sc_common_root.nd rfl rfl (by decide) rfl rfl (pa_cons (pe_f c_product_of hr (by decide) rfl (pa_cons (pe_tup (pa_cons (pv 1) (pa_cons (pv 2) pa_nil))) pa_nil)) (pa_cons (pe_f c_product_of hr (by decide) rfl (pa_cons (pe_tup (pa_cons (pv 2) (pa_cons (pv 1) pa_nil))) pa_nil)) pa_nil)) (by with_unfolding_all rfl)) (pss_cons (ps_if (pt_cmpR (kop_neD (K := K) hr.units) (pv 3) (pv 4) (nomark _)) (pss_one (ps_ret (pe_tup (pa_cons pe_str (pa_cons (pv 3) (pa_cons (pv 4) pa_nil)))))) pss_nil) (pss_cons (ps_if (PW.pt (pw_and (pt_cmpR (kop_eqD (K := K) hr.units) (pv 1) (pe_tup pa_nil) (nomark _)) (pw_and1 (pt_cmpR (kop_eqD (K := K) hr.units) (pv 2) (pe_tup pa_nil) (nomark _))))) (pss_one (ps_ret (pe_tup (pa_cons pe_str (pa_cons (pe_tup (pa_cons pe_int pa_nil)) (pa_cons pe_int (pa_cons pe_int pa_nil))))))) pss_nil) (pss_cons (ps_set (i := 5) sc_common_root.nd rfl (Or.inl rfl) (pe_ifExp (pt_cmpR (kop_eqD (K := K) hr.units) (pv 1) (pe_tup pa_nil) (nomark _)) (pe_ix (kix_tup (K := K)) (pe_f c_root_of hr (by decide) rfl (pa_cons (pv 2) pa_nil)) pe_int (fun _ _ => rfl)) (pe_ix (kix_tup (K := K)) (pe_f c_root_of hr (by decide) rfl (pa_cons (pv 1) pa_nil)) pe_int (fun _ _ => rfl)))) (pss_one (ps_ret (pe_tup (pa_cons pe_str (pa_cons (pv 5) (pa_cons (pe_f c_exponent_of hr (by decide) rfl (pa_cons (pv 5) (pa_cons (pv 1) pa_nil))) (pa_cons (pe_f c_exponent_of hr (by decide) rfl (pa_cons (pv 5) (pa_cons (pv 2) pa_nil))) pa_nil)))))))))))), ?_⟩
    refine ⟨.int n, rfl, .ref a, rfl, .ref b, rfl, by show 2 ≤ sizeLine; decide, fun t ht => ⟨n, t, [(a, ns), (b, bs)], rfl, n1, n5, tup_of upd_same, ws_two (same_tup (new_same ht) h) hw (by omega) (same_tup (new_same ht) g) gw (by omega), fun H1 e1 => ?_⟩⟩
    have e0 := Same.trans (new_same (o := .tup [.ref a, .ref b]) ht) e1
    refine ⟨.ref a, rfl, .ref b, rfl, by show 2 ≤ sizeLine; decide, fun t1 ht1 => ⟨t1, [(a, ns), (b, bs)], rfl, tup_of upd_same, tis2 (same_tup (Same.trans e0 (new_same ht1)) h) (same_tup (Same.trans e0 (new_same ht1)) g), by rw [fl2, List.length_append]; omega, fun H2 p1 e2 h1 => ?_⟩⟩
    have e02 := Same.trans (Same.trans e0 (new_same (o := .tup [.ref a, .ref b]) ht1)) e2
    refine ⟨.ref b, rfl, .ref a, rfl, by show 2 ≤ sizeLine; decide, fun t2 ht2 => ⟨t2, [(b, bs), (a, ns)], rfl, tup_of upd_same, tis2 (same_tup (Same.trans e02 (new_same ht2)) g) (same_tup (Same.trans e02 (new_same ht2)) h), by rw [fl2, List.length_append]; omega, fun H3 p2 e3 h2 => ⟨_, _, rfl, ?_⟩⟩⟩
    have h1 := same_tup (Same.trans (new_same (o := .tup [.ref b, .ref a]) ht2) e3) h1
    have e03 := Same.trans (Same.trans e02 (new_same (o := .tup [.ref b, .ref a]) ht2)) e3
    rw [fl2] at h1 h2
    refine ⟨.ref p1, rfl, .ref p2, rfl, ne_tup h1 h2 ⟨_, rfl, ite2 (fun i1 => ?_) fun i1 => ?_⟩⟩
    · have i1 : Fr.red (ns ++ bs) ≠ Fr.red (bs ++ ns) := by simpa using i1
      exact ⟨.ref p1, rfl, .ref p2, rfl, by show 3 ≤ sizeLine; decide, fun t ht => k1 _ t p1 p2 (Same.trans e03 (new_same ht)) i1 (tup_of upd_same) (same_tup (new_same ht) h1) (same_tup (new_same ht) h2)⟩
    · have i1 : Fr.red (ns ++ bs) = Fr.red (bs ++ ns) := by simpa using i1
      clear h1 h2
      dsimp only
      unfold tNext
      dsimp only
      refine ifs_join (fun x H' => x = decide (ns = [] ∧ bs = []) ∧ Same H H') (fun Q' q' => ?_) fun x H4 hx => ?_
      · refine ⟨.ref a, rfl, Nat.zero_le _, fun z hz => eq_tup (ms := []) (same_tup (Same.trans e03 (new_same hz)) h) (tup_of upd_same) ⟨_, rfl, ?_⟩⟩
        have e04 := Same.trans e03 (new_same (o := .tup []) hz)
        refine ite2 (fun i2 => ?_) fun i2 => ?_
        · have i2 : ns = [] := of_decide_eq_true i2
          refine ⟨.ref b, rfl, Nat.zero_le _, fun z hz => eq_tup (ms := []) (same_tup (Same.trans e04 (new_same hz)) g) (tup_of upd_same) ⟨_, rfl, q' _ _ ⟨by simp [i2], Same.trans e04 (new_same hz)⟩⟩⟩
        · have i2 : ¬ ns = [] := fun q => i2 (decide_eq_true q)
          exact q' _ _ ⟨by simp [i2], e04⟩
      · obtain ⟨rfl, e04⟩ := hx
        refine ite2 (fun i2 => ?_) fun i2 => ?_
        · obtain ⟨rfl, rfl⟩ : ns = [] ∧ bs = [] := of_decide_eq_true i2
          refine ⟨by show 1 ≤ sizeLine; decide, fun p hp => ⟨by show 4 ≤ sizeLine; decide, fun t ht => ?_⟩⟩
          exact k2 _ t p [1] 0 0 (Same.trans (Same.trans e04 (new_same hp)) (new_same ht)) i1 (tup_of upd_same) (same_tup (new_same ht) (tup_of upd_same)) ⟨fun i hi => by rw [List.mem_singleton.mp hi]; omega, True.intro⟩ (by simp) (by decide) (by decide) (by decide) rfl rfl
        · have i2 : ¬ (ns = [] ∧ bs = []) := fun q => i2 (decide_eq_true q)
          dsimp only
          refine asg_join (fun v H5 => ∃ pb r e, v = .ref pb ∧ Same H H5 ∧ SqT K H5 pb (r.map V.int) ∧ (ns = [] ∧ Rg.RootW bs r e ∨ ns ≠ [] ∧ Rg.RootW ns r e)) (fun Q' q' => ?_) fun v H5 hv => ?_
          · refine ⟨.ref a, rfl, Nat.zero_le _, fun z hz => eq_tup (ms := []) (same_tup (Same.trans e04 (new_same hz)) h) (tup_of upd_same) ⟨_, rfl, ?_⟩⟩
            have e05 := Same.trans e04 (new_same (o := .tup []) hz)
            generalize upd H4 z (.tup []) = H5 at e05
            refine ite2 (fun i3 => ?_) fun i3 => ?_
            · have i3 : ns = [] := of_decide_eq_true i3
              have i4 : bs ≠ [] := fun q => i2 ⟨i3, q⟩
              exact ⟨.ref b, rfl, n, b, bs, rfl, same_tup e05 g, gw, i4, by omega, fun H6 t p r e e6 hr6 ht hp => ⟨t, _, 0, _, rfl, rfl, ht, atI_nat (j := 0) rfl, q' _ _ ⟨p, r, e, rfl, Same.trans e05 e6, hp, .inl ⟨i3, hr6⟩⟩⟩⟩
            · have i3 : ns ≠ [] := fun q => i3 (decide_eq_true q)
              exact ⟨.ref a, rfl, n, a, ns, rfl, same_tup e05 h, hw, i3, by omega, fun H6 t p r e e6 hr6 ht hp => ⟨t, _, 0, _, rfl, rfl, ht, atI_nat (j := 0) rfl, q' _ _ ⟨p, r, e, rfl, Same.trans e05 e6, hp, .inr ⟨i3, hr6⟩⟩⟩⟩
          · obtain ⟨pb, r, e, rfl, e05, hpb, hcase⟩ := hv
            refine ⟨.ref pb, rfl, .ref pb, rfl, .ref a, rfl, n, a, pb, ns, r, rfl, same_tup e05 h, hw, by omega, hpb, fun H6 x1 e6 hx1 => ⟨.ref pb, rfl, .ref b, rfl, n, b, pb, bs, r, rfl, same_tup (Same.trans e05 e6) g, gw, by omega, same_tup e6 hpb, fun H7 x2 e7 hx2 => ⟨by show 4 ≤ sizeLine; decide, fun t ht => ?_⟩⟩⟩
            have e67 := Same.trans (Same.trans e6 e7) (new_same (o := .tup [.str "root", .ref pb, .int x1, .int x2]) ht)
            have fin : ∀ {w0 : List Int} {e0 : Nat}, Wd n w0 → w0.length ≤ 100 → Rg.RootW w0 r e0 → (-(ns.length : Int) ≤ x1 ∧ x1 ≤ ns.length) → (-(bs.length : Int) ≤ x2 ∧ x2 ≤ bs.length) → Fr.red (Fr.pw r x1) = ns → Fr.red (Fr.pw r x2) = bs → Q (.ref t) (upd H7 t (.tup [.str "root", .ref pb, .int x1, .int x2])) := fun {w0 e0} z1 z2 z3 z4 z5 z6 z7 => by
              obtain ⟨y1, y2⟩ := rootw_wd z1 z3
              have y3 := (rootw_le z3).2.1
              exact k2 _ t pb r x1 x2 (Same.trans e05 e67) i1 (tup_of upd_same) (same_tup e67 hpb) y1 y2 (by omega) z4 z5 z6 z7
            have zero : Fr.red (Fr.pw r 0) = [] := rfl
            rcases hcase with ⟨i3, hr3⟩ | ⟨i3, hr3⟩
            · subst i3
              have hx1 : x1 = 0 := by
                rcases hx1 with ⟨_, z⟩ | ⟨_, _, z, _⟩
                · exact z
                · exact absurd rfl (Rg.rootw_nil z)
              have hx2 : x2 = (e : Int) := by
                rcases hx2 with ⟨z, _⟩ | ⟨r', e', z, z2⟩
                · exact absurd z (Rg.rootw_nil hr3)
                · obtain ⟨rfl, rfl⟩ := Rg.rootw_uniq hr3 z
                  rw [z2, if_pos rfl]
              subst hx1 hx2
              have := (rootw_le hr3).1
              exact fin gw gl hr3 ⟨by simp, by simp⟩ ⟨by omega, by omega⟩ zero (by rw [pw_nat]; exact Rg.rootw_pow gw.nf hr3)
            · have hx1 : x1 = (e : Int) := by
                rcases hx1 with ⟨z, _⟩ | ⟨r', e', z, z2⟩
                · exact absurd z i3
                · obtain ⟨rfl, rfl⟩ := Rg.rootw_uniq hr3 z
                  rw [z2, if_pos rfl]
              subst hx1
              have l1 := (rootw_le hr3).1
              have p1 : Fr.red (Fr.pw r (e : Int)) = ns := by rw [pw_nat]; exact Rg.rootw_pow hw.nf hr3
              rcases hx2 with ⟨z, z2⟩ | ⟨r', e', z, z2⟩
              · subst z z2
                exact fin hw hl hr3 ⟨by omega, by omega⟩ ⟨by simp, by simp⟩ p1 zero
              · have l2 := (rootw_le z).1
                obtain ⟨j, j0, hj⟩ := Rg.commute hw.nf gw.nf (Rg.rootw_nil z) hr3 i1
                have hwr := rootw_wd hw hr3
                rcases hj with hj | hj
                · obtain ⟨rfl, rfl⟩ := Rg.rootw_uniq hj z
                  rw [if_pos rfl] at z2
                  subst z2
                  exact fin hw hl hr3 ⟨by omega, by omega⟩ ⟨by omega, by omega⟩ p1 (by rw [pw_nat]; exact Rg.rootw_pow gw.nf z)
                · obtain ⟨rfl, rfl⟩ := Rg.rootw_uniq hj z
                  rw [if_neg (fun q => Rg.root_ne_opp hwr.1.nf (fun x hx => (hwr.1.lt x hx).1) hwr.2 q.symm)] at z2
                  subst z2
                  exact fin hw hl hr3 ⟨by omega, by omega⟩ ⟨by omega, by omega⟩ p1 (by rw [pw_opp]; exact Rg.rootw_pow gw.nf z)
theorem cl_common_root (T : Txt K mg) : Cl P w K mg base 6 "common_root" (spCommon K) := by
  obtain ⟨f, fd, F, hm, hb⟩ := T.f_common_root
  exact cl_of (ok_common_root F T) hm F.kp hb
/-! what stands in a paper -/
inductive Di where
  | row (ns : List Int)
  | int (i : Int)
  | non
  | bl (b : Bool)
  | lst (ns : List Int)
def Di.data : Di → PyData
  | .row ns => .tuple (ns.map .int)
  | .int i => .int i
  | .non => .none
  | .bl b => .bool b
  | .lst ns => .list (ns.map .int)
def Di.va : Di → Option (List (Option Int))
  | .row ns => some (ns.map some)
  | _ => none
def Di.en : Di → Option Int
  | .int i => some i
  | _ => none
inductive It (K : PySem.W.Frag) (H : Hp) : V → Di → Prop
  | row {a : Addr} {ns : List Int} (h : SqT K H a (ns.map V.int)) (hl : ns.length ≤ 100) : It K H (.ref a) (.row ns)
  | int (i : Int) (h : -50 ≤ i ∧ i ≤ 50) : It K H (.int i) (.int i)
  | non : It K H .non .non
  | bl (b : Bool) : It K H (.bl b) (.bl b)
  | lst {a : Addr} {ns : List Int} (h : H a = some (.lst (ns.map V.int))) : It K H (.ref a) (.lst ns)
section
variable {H H1 : Hp}
theorem It.dp {v : V} {d : Di} (h : It K H v d) : Dp K H v d.data := by
  cases h with
  | row h _ => exact dp_tup h
  | int i _ => exact .int i
  | non => exact .non
  | bl b => exact .bl b
  | lst h => exact dp_list (lst_of h)
theorem It.va {v : V} {d : Di} (h : It K H v d) : Va K H v d.va := by
  cases h with
  | row h _ => exact va_ints h
  | int i _ => exact .oth (t := "int") (.base (.int i)) (by decide +kernel)
  | non => exact .oth (t := "NoneType") (.base .non) (by decide +kernel)
  | bl b => exact .oth (t := "bool") (.base (.bl b)) (by decide +kernel)
  | lst h => exact .oth (t := "list") (.base (.lst h)) (by decide +kernel)
theorem It.en {v : V} {d : Di} (h : It K H v d) : En K H v d.en := by
  cases h with
  | row h _ => exact .oth (t := "tuple") (i := false) (b := false) (tyx_tup h) (by decide +kernel) (by decide +kernel) rfl
  | int i _ => exact .int i
  | non => exact .oth (t := "NoneType") (i := false) (b := false) (.base .non) (by decide +kernel) (by decide +kernel) rfl
  | bl b => exact .oth (t := "bool") (i := true) (b := true) (.base (.bl b)) (by decide +kernel) (by decide +kernel) rfl
  | lst h => exact .oth (t := "list") (i := false) (b := false) (.base (.lst h)) (by decide +kernel) (by decide +kernel) rfl
theorem It.same {v : V} {d : Di} (e : Same H H1) (h : It K H v d) : It K H1 v d := by
  cases h with
  | row h hl => exact .row (same_tup e h) hl
  | int i h => exact .int i h
  | non => exact .non
  | bl b => exact .bl b
  | lst h => exact .lst (e _ _ h)
inductive Its (K : PySem.W.Frag) (H : Hp) : List V → List Di → Prop
  | nil : Its K H [] []
  | cons {v : V} {vs : List V} {d : Di} {ds : List Di} : It K H v d → Its K H vs ds → Its K H (v :: vs) (d :: ds)
theorem Its.same (e : Same H H1) : ∀ {vs : List V} {ds : List Di}, Its K H vs ds → Its K H1 vs ds
  | _, _, .nil => .nil
  | _, _, .cons h t => .cons (h.same e) (t.same e)
theorem Its.len : ∀ {vs : List V} {ds : List Di}, Its K H vs ds → vs.length = ds.length
  | _, _, .nil => rfl
  | _, _, .cons _ t => congrArg (· + 1) t.len
theorem Its.dp : ∀ {vs : List V} {ds : List Di}, Its K H vs ds → DpAll K H vs (ds.map Di.data)
  | _, _, .nil => .nil
  | _, _, .cons h t => .cons h.dp t.dp
theorem data_lay (d : Di) : d.data.canLay0 = true := by
  cases d with
  | row ns => exact canLay_ints ns
  | lst ns => exact canLay_ints ns
  | _ => rfl
theorem data_deep (d : Di) : d.data.depth ≤ 1 := by
  cases d with
  | row ns => exact Nat.le_of_eq (show PyData.depthAll (ns.map .int) + 1 = 1 by rw [depth_ints])
  | lst ns => exact Nat.le_of_eq (show PyData.depthAll (ns.map .int) + 1 = 1 by rw [depth_ints])
  | _ => exact Nat.zero_le _
theorem datas_lay : ∀ ds : List Di, PyData.canLayAll0 (ds.map Di.data) = true
  | [] => rfl
  | d :: ds => by
    show (d.data.canLay0 && PyData.canLayAll0 (ds.map Di.data)) = true
    rw [data_lay, datas_lay ds]
    rfl
theorem datas_deep : ∀ ds : List Di, PyData.depthAll (ds.map Di.data) ≤ 1
  | [] => Nat.zero_le _
  | d :: ds => by
    show max d.data.depth (PyData.depthAll (ds.map Di.data)) ≤ 1
    have h1 := data_deep d
    have h2 := datas_deep ds
    omega
theorem shaped_datas (ds : List Di) : SeqAt.shaped (.tuple (ds.map Di.data)) = true := by
  unfold SeqAt.shaped
  have h2 := datas_deep ds
  rw [show (PyData.tuple (ds.map Di.data)).canLay0 = PyData.canLayAll0 (ds.map Di.data) from rfl, datas_lay, show (PyData.tuple (ds.map Di.data)).depth = PyData.depthAll (ds.map Di.data) + 1 from rfl, Bool.true_and]
  exact decide_eq_true (by omega)
theorem shaped_paper {s : Str} (hs : (PyData.str s).canLay0 = true) (ds : List Di) : SeqAt.shaped (.tuple (.str s :: ds.map Di.data)) = true := by
  unfold SeqAt.shaped
  have h2 := datas_deep ds
  have e1 : (PyData.tuple (.str s :: ds.map Di.data)).canLay0 = true := by
    show ((PyData.str s).canLay0 && PyData.canLayAll0 (ds.map Di.data)) = true
    rw [datas_lay, hs]
    rfl
  have e2 : (PyData.tuple (.str s :: ds.map Di.data)).depth = PyData.depthAll (ds.map Di.data) + 1 := by
    show max 0 (PyData.depthAll (ds.map Di.data)) + 1 = _
    omega
  rw [e1, e2, Bool.true_and]
  exact decide_eq_true (by omega)
theorem sl_vals {a : Addr} {xs : List V} {lo hi : Option Int} {Q : VK} (h : SqT K H a xs) (k : ∀ H' p, Same H H' → SqT K H' p (cutV xs lo hi) → Q (.ref p) H') : rSlA K (.ref a) lo hi H Q := by
  refine ⟨a, _, rfl, h, fun hw => k _ _ (Same.refl _) ?_, fun _ p hp => k _ _ (new_same hp) (tup_of upd_same)⟩
  unfold cutV
  rw [hw.1, hw.2, List.drop_zero, Nat.sub_zero, List.take_length]
  exact h
theorem cutV_from (xs : List V) (k : Nat) : cutV xs (some (k : Int)) none = xs.drop k := by
  unfold cutV
  rw [HT.sIx_none, HT.sIx_nat]
  by_cases h : k ≤ xs.length
  · rw [Nat.min_eq_left h, List.take_of_length_le (by rw [List.length_drop]; omega)]
  · rw [Nat.min_eq_right (by omega), Nat.sub_self, List.take_zero, List.drop_of_length_le (by omega)]
/-- a paper, or something else -/
inductive Pv (K : PySem.W.Frag) (H : Hp) : V → Option (Str × List Di) → Prop
  | oth {v : V} {t : String} (h : TyX K H v (.type t)) (k : kitB t "tuple" = some false) : Pv K H v none
  | nil {a : Addr} (h : SqT K H a []) : Pv K H (.ref a) none
  | tup {a : Addr} {s : Str} {ys : List V} {ds : List Di} (h : SqT K H a (.str s :: ys)) (hi : Its K H ys ds) (hl : ds.length ≤ 10) (hs : (PyData.str s).canLay0 = true) : Pv K H (.ref a) (some (s, ds))
theorem Pv.same {v : V} {o : Option (Str × List Di)} (e : Same H H1) (h : Pv K H v o) : Pv K H1 v o := by
  cases h with
  | oth h k => exact .oth (tyx_same e h) k
  | nil h => exact .nil (same_tup e h)
  | tup h hi hl hs => exact .tup (same_tup e h) (hi.same e) hl hs
end
def rootV (n : Int) (ns bs : List Int) : List Di → Bool
  | [.row r, .int e1, .int e2] => bareB n 200 (r.map some) && (decide (Fr.red (Fr.pw r e1) = ns) && decide (Fr.red (Fr.pw r e2) = bs))
  | _ => false
def unlV (ns bs : List Int) : List Di → Bool
  | [.row a, .row b] => decide (a = Fr.red (ns ++ bs)) && decide (b = Fr.red (bs ++ ns)) && !decide (Fr.red (ns ++ bs) = Fr.red (bs ++ ns))
  | _ => false
def paperV (n : Int) (ns bs : List Int) : Option (Str × List Di) → Bool
  | none => false
  | some (s, ds) => if s = "root" then rootV n ns bs ds else if s = "unlike" then unlV ns bs ds else false
def spRootP (K : PySem.W.Frag) : Sp := fun vs H Q _ => ∃ (n : Int) (a b c : Addr) (ns bs : List Int) (s : Str) (ys : List V) (ds : List Di), vs = [.int n, .ref a, .ref b, .ref c] ∧ SqT K H a (ns.map V.int) ∧ ns.length ≤ 50 ∧ SqT K H b (bs.map V.int) ∧ bs.length ≤ 50 ∧ SqT K H c (.str s :: ys) ∧ Its K H ys ds ∧ ∀ H', Same H H' → Q (.bl (rootV n ns bs ds)) H'
theorem three_its {H : Hp} {ys : List V} {ds : List Di} (h : Its K H ys ds) (hl : ys.length = 3) : ∃ y1 y2 y3 d1 d2 d3, ys = [y1, y2, y3] ∧ ds = [d1, d2, d3] ∧ It K H y1 d1 ∧ It K H y2 d2 ∧ It K H y3 d3 := by
  cases h with
  | nil => cases hl
  | cons h1 t =>
    cases t with
    | nil => cases hl
    | cons h2 t =>
      cases t with
      | nil => cases hl
      | cons h3 t =>
        cases t with
        | nil => exact ⟨_, _, _, _, _, _, rfl, rfl, h1, h2, h3⟩
        | cons _ _ => simp at hl
theorem two_its {H : Hp} {ys : List V} {ds : List Di} (h : Its K H ys ds) (hl : ys.length = 2) : ∃ y1 y2 d1 d2, ys = [y1, y2] ∧ ds = [d1, d2] ∧ It K H y1 d1 ∧ It K H y2 d2 := by
  cases h with
  | nil => cases hl
  | cons h1 t =>
    cases t with
    | nil => cases hl
    | cons h2 t =>
      cases t with
      | nil => exact ⟨_, _, _, _, rfl, rfl, h1, h2⟩
      | cons _ _ => simp at hl
theorem rootV_len {n : Int} {ns bs : List Int} {ds : List Di} (h : ds.length ≠ 3) : rootV n ns bs ds = false := by
  unfold rootV
  split
  · exact absurd rfl h
  · rfl
theorem unlV_len {ns bs : List Int} {ds : List Di} (h : ds.length ≠ 2) : unlV ns bs ds = false := by
  unfold unlV
  split
  · exact absurd rfl h
  · rfl
theorem ok_is_root_paper {f : Addr} {fd : FuncData} (F : Fun K "is_root_paper" "is_root_paper" st_is_root_paper f fd) (T : Txt K mg) : FnOk P w K mg base CX0 5 f fd ["letters", "one", "other", "value"] (spRootP K) := by
  have c_is_bare_row : Cl P w K mg base 3 "is_bare_row" (spIsBareRow K) := cl_is_bare_row T
  have c_is_integer : Cl P w K mg base 1 "is_integer" (spIsInt K) := cl_is_integer T
  have c_is_repeated : Cl P w K mg base 4 "is_repeated" (spIsRep K) := cl_is_repeated T
  refine F.ok sc_is_root_paper (fun vs H Q E h => ?_) (fun cdv A outer s H vs Q E hr h => ?_)
  · obtain ⟨n, a, b, c, ns, bs, s, ys, ds, rfl, _⟩ := h
    rfl
  · obtain ⟨n, a, b, c, ns, bs, s, ys, ds, rfl, h, hl, g, gl, u, hi, k⟩ := h
    refine ⟨_, (pss_cons (ps_if (PW.pt (pw_or (pt_cmpR op_ne (pe_callB (kcall_len (K := K)) (by rfl) T.n_len bo_len (pa_cons (pv 3) pa_nil)) pe_int (nomark _)) (pw_or1 (pt_not (pt_val (pe_f c_is_bare_row hr (by decide) rfl (pa_cons (pv 0) (pa_cons (pe_ix (kix_tup (K := K)) (pv 3) pe_int (fun _ _ => rfl)) (pa_cons (pe_glob rfl T.c_MAX_WORD.choose_spec rel_int) pa_nil))))))))) (pss_one (ps_ret pe_bl)) pss_nil) (pss_cons (ps_if (PW.pt (pw_or (pt_not (pt_val (pe_f c_is_integer hr (by decide) rfl (pa_cons (pe_ix (kix_tup (K := K)) (pv 3) pe_int (fun _ _ => rfl)) pa_nil)))) (pw_or1 (pt_not (pt_val (pe_f c_is_integer hr (by decide) rfl (pa_cons (pe_ix (kix_tup (K := K)) (pv 3) pe_int (fun _ _ => rfl)) pa_nil))))))) (pss_one (ps_ret pe_bl)) pss_nil) (pss_one (ps_ret (pe_and (pe_f c_is_repeated hr (by decide) rfl (pa_cons (pv 1) (pa_cons (pe_ix (kix_tup (K := K)) (pv 3) pe_int (fun _ _ => rfl)) (pa_cons (pe_ix (kix_tup (K := K)) (pv 3) pe_int (fun _ _ => rfl)) pa_nil)))) (pe_one (pe_f c_is_repeated hr (by decide) rfl (pa_cons (pv 2) (pa_cons (pe_ix (kix_tup (K := K)) (pv 3) pe_int (fun _ _ => rfl)) (pa_cons (pe_ix (kix_tup (K := K)) (pv 3) pe_int (fun _ _ => rfl)) pa_nil)))))))))), ?_⟩
    refine ⟨.ref c, rfl, c, _, rfl, .inr u, rfl, _, rfl, ?_⟩
    by_cases h3 : ys.length = 3
    · obtain ⟨y1, y2, y3, d1, d2, d3, rfl, rfl, i1, i2, i3⟩ := three_its hi h3
      refine ⟨.int n, rfl, .ref c, rfl, c, _, 1, y1, rfl, rfl, u, atI_nat (j := 1) rfl, n, 200, y1, d1.va, rfl, by decide, i1.va, fun H1 e1 => ⟨_, rfl, ?_⟩⟩
      show if (!bareV n 200 d1.va) = true then _ else _
      refine ite2 (fun q1 => ?_) fun q1 => ?_
      · have := k _ e1
        have e : rootV n ns bs [d1, d2, d3] = false := by
          cases d1 with
          | row r =>
            cases d2 <;> cases d3 <;> first | rfl | skip
            have q1 : (!bareB n 200 (r.map some)) = true := q1
            rw [Bool.not_eq_true'] at q1
            show (bareB n 200 (r.map some) && _) = false
            rw [q1, Bool.false_and]
          | _ => rfl
        rw [e] at this
        exact this
      · have q1 : bareV n 200 d1.va = true := by
          cases z : bareV n 200 d1.va with
          | true => rfl
          | false => rw [z] at q1; exact absurd rfl q1
        cases i1 with
        | @row r rs hr1 hr2 =>
          have wr : Wd n rs := by
            have q1 : (rowB n 200 (rs.map some) && nfB (intsOf (rs.map some))) = true := q1
            rw [Bool.and_eq_true, intsOf_some] at q1
            have q2 : (!decide ((200 : Int) < ((rs.map some).length : Int)) && (rs.map some).all (okE n)) = true := q1.1
            rw [Bool.and_eq_true] at q2
            exact ⟨lt_okE q2.2, nfB_iff.mp q1.2⟩
          refine ⟨.ref c, rfl, c, _, 2, y2, rfl, rfl, same_tup e1 u, atI_nat (j := 2) rfl, y2, d2.en, rfl, (i2.same e1).en, d2.en.isSome, rfl, ?_⟩
          cases i2 with
          | int x2 hx2 =>
            refine ⟨.ref c, rfl, c, _, 3, y3, rfl, rfl, same_tup e1 u, atI_nat (j := 3) rfl, y3, d3.en, rfl, (i3.same e1).en, d3.en.isSome, rfl, ?_⟩
            cases i3 with
            | int x3 hx3 =>
              have ev : rootV n ns bs [.row rs, .int x2, .int x3] = (decide (Fr.red (Fr.pw rs x2) = ns) && decide (Fr.red (Fr.pw rs x3) = bs)) := by
                show (bareB n 200 (rs.map some) && _) = _
                rw [show bareB n 200 (rs.map some) = true from q1, Bool.true_and]
              rw [ev] at k
              refine ⟨.ref a, rfl, .ref c, rfl, c, _, 1, _, rfl, rfl, same_tup e1 u, atI_nat (j := 1) rfl, .ref c, rfl, c, _, 2, _, rfl, rfl, same_tup e1 u, atI_nat (j := 2) rfl, n, a, r, ns, rs, x2, rfl, same_tup e1 h, hl, same_tup e1 hr1, wr, by omega, fun H2 e2 => ⟨_, rfl, ?_⟩⟩
              have e12 := Same.trans e1 e2
              cases q2 : decide (Fr.red (Fr.pw rs x2) = ns) with
              | false =>
                have := k _ e12
                rw [q2, Bool.false_and] at this
                exact this
              | true =>
                rw [q2, Bool.true_and] at k
                exact ⟨.ref b, rfl, .ref c, rfl, c, _, 1, _, rfl, rfl, same_tup e12 u, atI_nat (j := 1) rfl, .ref c, rfl, c, _, 3, _, rfl, rfl, same_tup e12 u, atI_nat (j := 3) rfl, n, b, r, bs, rs, x3, rfl, same_tup e12 g, gl, same_tup e12 hr1, wr, by omega, fun H3 e3 => k _ (Same.trans e12 e3)⟩
            | _ => exact k _ e1
          | _ => exact k _ e1
        | _ => cases q1
    · have e := rootV_len (n := n) (ns := ns) (bs := bs) (show ds.length ≠ 3 by rw [← hi.len]; exact h3)
      have hne : (!decide (V.int (((V.str s :: ys).length : Nat) : Int) = V.int 4)) = true := by
        rw [Bool.not_eq_true', decide_eq_false_iff_not]
        intro q
        have := V.int.inj q
        simp only [List.length_cons] at this
        omega
      rw [hne]
      have := k _ (Same.refl _)
      rw [e] at this
      exact this
theorem cl_is_root_paper (T : Txt K mg) : Cl P w K mg base 5 "is_root_paper" (spRootP K) := by
  obtain ⟨f, fd, F, hm, hb⟩ := T.f_is_root_paper
  exact cl_of (ok_is_root_paper F T) hm F.kp hb
def spUnlP (K : PySem.W.Frag) : Sp := fun vs H Q _ => ∃ (n : Int) (a b c : Addr) (ns bs : List Int) (s : Str) (ys : List V) (ds : List Di), vs = [.int n, .ref a, .ref b, .ref c] ∧ SqT K H a (ns.map V.int) ∧ Wd n ns ∧ ns.length ≤ 50 ∧ SqT K H b (bs.map V.int) ∧ Wd n bs ∧ bs.length ≤ 50 ∧ SqT K H c (.str s :: ys) ∧ Its K H ys ds ∧ ∀ H', Same H H' → Q (.bl (unlV ns bs ds)) H'
theorem its_at {H : Hp} : ∀ {ys : List V} {ds : List Di}, Its K H ys ds → ∀ (i : Nat) (x : V), ys[i]? = some x → ∃ d, ds[i]? = some d ∧ It K H x d
  | _, _, .nil, i, x, h => nomatch h
  | _, _, .cons h1 t, 0, x, h => by cases h; exact ⟨_, rfl, h1⟩
  | _, _, .cons h1 t, i + 1, x, h => its_at t i x h
theorem row_at {n : Int} {ms : List Int} {d : Di} (hw : Wd n ms) (hl : ms.length ≤ 400) (h : d = .row ms) : rowV n 400 d.va = true := by
  subst h
  exact row_wd hw.lt (by omega)
theorem ok_is_unlike_paper {f : Addr} {fd : FuncData} (F : Fun K "is_unlike_paper" "is_unlike_paper" st_is_unlike_paper f fd) (T : Txt K mg) : FnOk P w K mg base CX0 3 f fd ["letters", "one", "other", "value"] (spUnlP K) := by
  have c_is_row : Cl P w K mg base 2 "is_row" (spIsRow K) := cl_is_row T
  have c_product_of : Cl P w K mg base 2 "product_of" (spJoined K) := cl_product_of T
  refine F.ok sc_is_unlike_paper (fun vs H Q E h => ?_) (fun cdv A outer s H vs Q E hr h => ?_)
  · obtain ⟨n, a, b, c, ns, bs, s, ys, ds, rfl, _⟩ := h
    rfl
  · obtain ⟨n, a, b, c, ns, bs, s, ys, ds, rfl, h, hw, hl, g, gw, gl, u, hi, k⟩ := h
    have wf := wd_red (lt_app hw.lt gw.lt)
    have wg := wd_red (lt_app gw.lt hw.lt)
    have lf := len_red (ns ++ bs)
    have lg := len_red (bs ++ ns)
    rw [List.length_append] at lf lg
    refine ⟨_, (pss_cons (ps_if (PW.pt (pw_or (pt_cmpR op_ne (pe_callB (kcall_len (K := K)) (by rfl) T.n_len bo_len (pa_cons (pv 3) pa_nil)) pe_int (nomark _)) (pw_or1 (pt_not (pt_val (pe_callB (kcr_all (K := K) rfl) (by rfl) T.n_all bo_all (pa_cons (pe_lc (own := [("row", 6)]) rfl sc_is_unlike_paper.nd (kpi_tup (K := K) (pe_slice (ksl_tupA (K := K)) (pv 3) (po_some pe_int) po_none)) (blkOk_by (N := nm_is_unlike_paper) (sc := defScope st_is_unlike_paper) (by decide +kernel)) (fun _ _ _ _ _ => (pg_name (i := 6) sc_is_unlike_paper.nd rfl (by first | exact Or.inl rfl | exact Or.inr rfl))) (fun _ _ _ _ _ => pts_nil) (fun _ _ _ _ _ => (pe_f c_is_row hr (by decide) rfl (pa_cons (pv 0) (pa_cons (pv 6) (pa_cons (pe_op op_mul pe_int (pe_glob rfl T.c_MAX_WORD.choose_spec rel_int)) pa_nil)))))) pa_nil))))))) (pss_one (ps_ret pe_bl)) pss_nil) (pss_cons (ps_par (i := 4) (j := 5) rfl sc_is_unlike_paper.nd rfl rfl (by decide) rfl rfl (pa_cons (pe_f c_product_of hr (by decide) rfl (pa_cons (pe_tup (pa_cons (pv 1) (pa_cons (pv 2) pa_nil))) pa_nil)) (pa_cons (pe_f c_product_of hr (by decide) rfl (pa_cons (pe_tup (pa_cons (pv 2) (pa_cons (pv 1) pa_nil))) pa_nil)) pa_nil)) (by with_unfolding_all rfl)) (pss_one (ps_ret (pe_and (pe_cmpR (kop_neD (K := K) hr.units) (pv 4) (pv 5) (nomark _)) (pe_and (pe_cmpR (kop_eqD (K := K) hr.units) (pe_ix (kix_tup (K := K)) (pv 3) pe_int (fun _ _ => rfl)) (pv 4) (nomark _)) (pe_one (pe_cmpR (kop_eqD (K := K) hr.units) (pe_ix (kix_tup (K := K)) (pv 3) pe_int (fun _ _ => rfl)) (pv 5) (nomark _))))))))), ?_⟩
    refine ⟨.ref c, rfl, c, _, rfl, .inr u, rfl, _, rfl, ?_⟩
    by_cases h3 : ys.length = 2
    · have hn : (!decide (V.int (((V.str s :: ys).length : Nat) : Int) = V.int 3)) = false := by
        rw [Bool.not_eq_false', decide_eq_true_iff]
        simp only [List.length_cons]
        rw [h3]
        rfl
      rw [hn]
      refine ⟨.ref c, rfl, 1, rfl, nopart (sl_vals u fun H1 p1 e1 h1 => ?_)⟩
      rw [show (some (1 : Int)) = some ((1 : Nat) : Int) from rfl, cutV_from] at h1
      have h1 : SqT K H1 p1 ys := h1
      refine ⟨p1, rfl, ⟨_, h1⟩, fun D hD => lc_tup (K := K) (a := p1) (xs := ys) (fun i H' => Same H1 H' ∧ H' D = some (.lst (((ds.map fun d => rowV n 400 d.va).take i).map V.bl))) ⟨new_same hD, upd_same⟩ (fun i H' _ q => same_tup q.1 h1) (fun i x H' hx q => ?_) fun H' q => ?_⟩
      · obtain ⟨d, hd, it⟩ := its_at hi i x hx
        refine ⟨rfl, .int n, rfl, x, rfl, _, _, rfl, rfl, .inl ⟨by decide, by decide⟩, n, 400, x, d.va, rfl, by decide, (it.same (Same.trans e1 q.1)).va, fun H2 e2 => ?_⟩
        have d2 := e2 _ _ q.2
        refine ⟨_, d2, small1000 (by rw [List.length_map, List.length_take, List.length_map]; have := hi.len; omega), same_mut (Same.trans q.1 e2) hD, ?_⟩
        rw [upd_same, List.take_succ, List.getElem?_map, hd, List.map_append]
        rfl
      · refine ⟨D, _, rfl, lst_of q.2, _, rfl, ?_⟩
        have e2 := Same.trans e1 q.1
        rw [List.take_of_length_le (by rw [List.length_map, ← hi.len]; exact Nat.le_refl _)]
        obtain ⟨y1, y2, d1, d2, rfl, rfl, i1, i2⟩ := two_its hi h3
        show if (!(rowV n 400 d1.va && (rowV n 400 d2.va && true))) = true then _ else _
        refine ite2 (fun q1 => ?_) fun q1 => ?_
        · have := k _ e2
          have e : unlV ns bs [d1, d2] = false := by
            cases z : unlV ns bs [d1, d2] with
            | false => rfl
            | true =>
              cases d1 with
              | row x1 =>
                cases d2 with
                | row x2 =>
                  have z : (decide (x1 = Fr.red (ns ++ bs)) && decide (x2 = Fr.red (bs ++ ns)) && !decide (Fr.red (ns ++ bs) = Fr.red (bs ++ ns))) = true := z
                  rw [Bool.and_eq_true, Bool.and_eq_true] at z
                  have z1 := of_decide_eq_true z.1.1
                  have z2 := of_decide_eq_true z.1.2
                  rw [row_at wf (by omega) (congrArg Di.row z1), row_at wg (by omega) (congrArg Di.row z2)] at q1
                  cases q1
                | _ => cases z
              | _ => cases z
          rw [e] at this
          exact this
        · have q1 : rowV n 400 d1.va = true ∧ rowV n 400 d2.va = true := by
            cases z1 : rowV n 400 d1.va with
            | false => rw [z1] at q1; exact absurd rfl q1
            | true =>
              cases z2 : rowV n 400 d2.va with
              | false => rw [z1, z2] at q1; exact absurd rfl q1
              | true => exact ⟨rfl, rfl⟩
          cases i1 with
          | @row r1 x1 hr1 _ =>
            cases i2 with
            | @row r2 x2 hr2 _ =>
              have ev : unlV ns bs [.row x1, .row x2] = (decide (x1 = Fr.red (ns ++ bs)) && decide (x2 = Fr.red (bs ++ ns)) && !decide (Fr.red (ns ++ bs) = Fr.red (bs ++ ns))) := rfl
              rw [ev] at k
              have h := same_tup e2 h
              have g := same_tup e2 g
              have u := same_tup e2 u
              have hr1 := same_tup e2 hr1
              have hr2 := same_tup e2 hr2
              refine ⟨.ref a, rfl, .ref b, rfl, by show 2 ≤ sizeLine; decide, fun t1 ht1 => ⟨t1, [(a, ns), (b, bs)], rfl, tup_of upd_same, tis2 (same_tup (new_same ht1) h) (same_tup (new_same ht1) g), by rw [fl2, List.length_append]; omega, fun H3 p3 e3 h3 => ?_⟩⟩
              have e03 := Same.trans (new_same (o := .tup [.ref a, .ref b]) ht1) e3
              refine ⟨.ref b, rfl, .ref a, rfl, by show 2 ≤ sizeLine; decide, fun t2 ht2 => ⟨t2, [(b, bs), (a, ns)], rfl, tup_of upd_same, tis2 (same_tup (Same.trans e03 (new_same ht2)) g) (same_tup (Same.trans e03 (new_same ht2)) h), by rw [fl2, List.length_append]; omega, fun H4 p4 e4 h4 => ⟨_, _, rfl, ?_⟩⟩⟩
              have h3 := same_tup (Same.trans (new_same (o := .tup [.ref b, .ref a]) ht2) e4) h3
              have e04 := Same.trans (Same.trans e03 (new_same (o := .tup [.ref b, .ref a]) ht2)) e4
              rw [fl2] at h3 h4
              have u := same_tup e04 u
              have hr1 := same_tup e04 hr1
              have hr2 := same_tup e04 hr2
              have k := k _ (Same.trans e2 e04)
              refine ⟨.ref p3, rfl, .ref p4, rfl, ne_tup h3 h4 ⟨_, rfl, ?_⟩⟩
              cases q3 : decide (Fr.red (ns ++ bs) = Fr.red (bs ++ ns)) with
              | true =>
                rw [q3, Bool.not_true, Bool.and_false] at k
                exact k
              | false =>
                rw [q3, Bool.not_false, Bool.and_true] at k
                refine ⟨.ref c, rfl, c, _, 1, _, rfl, rfl, u, atI_nat (j := 1) rfl, .ref p3, rfl, eq_tup hr1 h3 ⟨_, rfl, ?_⟩⟩
                cases q4 : decide (x1 = Fr.red (ns ++ bs)) with
                | false =>
                  rw [q4, Bool.false_and] at k
                  exact k
                | true =>
                  rw [q4, Bool.true_and] at k
                  exact ⟨.ref c, rfl, c, _, 2, _, rfl, rfl, u, atI_nat (j := 2) rfl, .ref p4, rfl, eq_tup hr2 h4 k⟩
            | _ => cases q1.2
          | _ => cases q1.1
    · have e := unlV_len (ns := ns) (bs := bs) (show ds.length ≠ 2 by rw [← hi.len]; exact h3)
      have hne : (!decide (V.int (((V.str s :: ys).length : Nat) : Int) = V.int 3)) = true := by
        rw [Bool.not_eq_true', decide_eq_false_iff_not]
        intro q
        have := V.int.inj q
        simp only [List.length_cons] at this
        omega
      rw [hne]
      have := k _ (Same.refl _)
      rw [e] at this
      exact this
theorem cl_is_unlike_paper (T : Txt K mg) : Cl P w K mg base 3 "is_unlike_paper" (spUnlP K) := by
  obtain ⟨f, fd, F, hm, hb⟩ := T.f_is_unlike_paper
  exact cl_of (ok_is_unlike_paper F T) hm F.kp hb
def spIsPaper (K : PySem.W.Frag) : Sp := fun vs H Q _ => ∃ (n : Int) (a b : Addr) (ns bs : List Int) (v : V) (o : Option (Str × List Di)), vs = [.int n, .ref a, .ref b, v] ∧ 1 ≤ n ∧ n ≤ 5 ∧ SqT K H a (ns.map V.int) ∧ Wd n ns ∧ ns.length ≤ 50 ∧ SqT K H b (bs.map V.int) ∧ Wd n bs ∧ bs.length ≤ 50 ∧
  Pv K H v o ∧ ∀ H', Same H H' → Q (.bl (paperV n ns bs o)) H'
theorem eqv_str (x y : Str) : PyData.eqv (.str x) (.str y) = decide (x = y) := by
  show (x == y) = _
  exact (Bool.beq_eq_decide_eq x y)
theorem eq_str {H : Hp} {x y : Str} {Q : VK} (hx : (PyData.str x).canLay0 = true) (hy : (PyData.str y).canLay0 = true) (q : Q (.bl (decide (x = y))) H) : rEqD K (.str x) (.str y) H Q := by
  have sh : ∀ {z : Str}, (PyData.str z).canLay0 = true → SeqAt.shaped (.str z) = true := fun {z} hz => by
    unfold SeqAt.shaped
    rw [hz]
    rfl
  exact ⟨_, _, .str x, .str y, sh hx, sh hy, by rw [eqv_str]; exact q⟩
theorem ok_is_common_root {f : Addr} {fd : FuncData} (F : Fun K "is_common_root" "is_common_root" st_is_common_root f fd) (T : Txt K mg) : FnOk P w K mg base CX0 6 f fd ["letters", "one", "other", "value"] (spIsPaper K) := by
  have c_check_words : Cl P w K mg base 5 "check_words" (spChkWords K) := cl_check_words T
  have c_is_root_paper : Cl P w K mg base 5 "is_root_paper" (spRootP K) := cl_is_root_paper T
  have c_is_unlike_paper : Cl P w K mg base 3 "is_unlike_paper" (spUnlP K) := cl_is_unlike_paper T
  refine F.ok sc_is_common_root (fun vs H Q E h => ?_) (fun cdv A outer s H vs Q E hr h => ?_)
  · obtain ⟨n, a, b, ns, bs, v, o, rfl, _⟩ := h
    rfl
  · obtain ⟨n, a, b, ns, bs, v, o, rfl, n1, n5, h, hw, hl, g, gw, gl, hv, k⟩ := h
    refine ⟨_, (pss_cons (ps_expr (pe_f c_check_words hr (by decide) rfl (pa_cons (pv 0) (pa_cons (pe_tup (pa_cons (pv 1) (pa_cons (pv 2) pa_nil))) pa_nil)))) (pss_cons (ps_if (PW.pt (pw_or (pt_not (pt_val (pe_callB (kcall_isi (K := K)) (by rfl) T.n_isinstance bo_isinstance (pa_cons (pv 3) (pa_cons (pe_bltn (by rfl) T.n_tuple bo_tuple rel_ty) pa_nil))))) (pw_or1 (pt_cmpR (kop_eqD (K := K) hr.units) (pv 3) (pe_tup pa_nil) (nomark _))))) (pss_one (ps_ret pe_bl)) pss_nil) (pss_cons (ps_if (pt_cmpR (kop_eqD (K := K) hr.units) (pe_ix (kix_tup (K := K)) (pv 3) pe_int (fun _ _ => rfl)) pe_str (nomark _)) (pss_one (ps_ret (pe_f c_is_root_paper hr (by decide) rfl (pa_cons (pv 0) (pa_cons (pv 1) (pa_cons (pv 2) (pa_cons (pv 3) pa_nil))))))) pss_nil) (pss_one (ps_ret (pe_and (pe_cmpR (kop_eqD (K := K) hr.units) (pe_ix (kix_tup (K := K)) (pv 3) pe_int (fun _ _ => rfl)) pe_str (nomark _)) (pe_one (pe_f c_is_unlike_paper hr (by decide) rfl (pa_cons (pv 0) (pa_cons (pv 1) (pa_cons (pv 2) (pa_cons (pv 3) pa_nil)))))))))))), ?_⟩
    refine ⟨.int n, rfl, .ref a, rfl, .ref b, rfl, by show 2 ≤ sizeLine; decide, fun t ht => ⟨n, t, [(a, ns), (b, bs)], rfl, n1, n5, tup_of upd_same, ws_two (same_tup (new_same ht) h) hw (by omega) (same_tup (new_same ht) g) gw (by omega), fun H1 e1 => ?_⟩⟩
    have e0 := Same.trans (new_same (o := .tup [.ref a, .ref b]) ht) e1
    have hv := hv.same e0
    cases hv with
    | oth hv0 kt =>
      refine ⟨v, rfl, v, _, _, _, false, rfl, .ty _, hv0, kit_ty kt, false, rfl, ?_⟩
      exact k _ e0
    | @nil c hc =>
      refine ⟨.ref c, rfl, .ref c, _, _, _, true, rfl, .ty _, tyx_tup hc, kit_ty (by decide +kernel), true, rfl, ?_⟩
      refine iteF ⟨.ref c, rfl, Nat.zero_le _, fun z hz => eq_tup (ns := []) (ms := []) (same_tup (new_same hz) hc) (tup_of upd_same) ⟨_, rfl, ?_⟩⟩
      exact k _ (Same.trans e0 (new_same (o := .tup []) hz))
    | @tup c s ys ds hc hi hdl hs =>
      refine ⟨.ref c, rfl, .ref c, _, _, _, true, rfl, .ty _, tyx_tup hc, kit_ty (by decide +kernel), true, rfl, ?_⟩
      refine iteF ⟨.ref c, rfl, Nat.zero_le _, fun z hz => ⟨.tuple (.str s :: ds.map Di.data), .tuple [], .tup (same_tup (new_same hz) hc) (.cons (.str s) (hi.same (new_same hz)).dp), .tup (tup_of upd_same) .nil, shaped_paper hs ds, rfl, _, rfl, ?_⟩⟩
      have ez := new_same (o := .tup []) hz
      have e0 := Same.trans e0 ez
      have hc := same_tup ez hc
      have hi := hi.same ez
      generalize upd H1 z (.tup []) = H2 at e0 hc hi
      have h := same_tup e0 h
      have g := same_tup e0 g
      show if false = true then _ else _
      refine ⟨.ref c, rfl, c, _, 0, .str s, rfl, rfl, hc, atI_nat (j := 0) rfl, c_part (eq_str hs (by decide +kernel) ⟨_, rfl, ?_⟩)⟩
      refine ite2 (fun q1 => ?_) fun q1 => ?_
      · have q1 : s = "root" := of_decide_eq_true q1
        have ev : paperV n ns bs (some (s, ds)) = rootV n ns bs ds := by
          show (if s = "root" then _ else _) = _
          rw [if_pos q1]
        rw [ev] at k
        exact ⟨.int n, rfl, .ref a, rfl, .ref b, rfl, .ref c, rfl, n, a, b, c, ns, bs, s, ys, ds, rfl, h, hl, g, gl, hc, hi, fun H3 e3 => k _ (Same.trans e0 e3)⟩
      · have q1 : ¬ s = "root" := fun q => q1 (decide_eq_true q)
        refine ⟨.ref c, rfl, c, _, 0, .str s, rfl, rfl, hc, atI_nat (j := 0) rfl, c_part (eq_str hs (by decide +kernel) ⟨_, rfl, ?_⟩)⟩
        refine ite2 (fun q2 => ?_) fun q2 => ?_
        · have q2 : s = "unlike" := of_decide_eq_true q2
          have ev : paperV n ns bs (some (s, ds)) = unlV ns bs ds := by
            show (if s = "root" then _ else if s = "unlike" then _ else _) = _
            rw [if_neg q1, if_pos q2]
          rw [ev] at k
          exact ⟨.int n, rfl, .ref a, rfl, .ref b, rfl, .ref c, rfl, n, a, b, c, ns, bs, s, ys, ds, rfl, h, hw, hl, g, gw, gl, hc, hi, fun H3 e3 => k _ (Same.trans e0 e3)⟩
        · have q2 : ¬ s = "unlike" := fun q => q2 (decide_eq_true q)
          have ev : paperV n ns bs (some (s, ds)) = false := by
            show (if s = "root" then _ else if s = "unlike" then _ else _) = _
            rw [if_neg q1, if_neg q2]
          have := k _ e0
          rw [ev] at this
          exact this
theorem cl_is_common_root (T : Txt K mg) : Cl P w K mg base 6 "is_common_root" (spIsPaper K) := by
  obtain ⟨f, fd, F, hm, hb⟩ := T.f_is_common_root
  exact cl_of (ok_is_common_root F T) hm F.kp hb
def spPowered (K : PySem.W.Frag) : Sp := fun vs H Q _ => ∃ (a : Addr) (ns : List Int) (m : Int), vs = [.ref a, .int m] ∧ SqT K H a (ns.map V.int) ∧ ns.length ≤ 200 ∧ -50 ≤ m ∧ m ≤ 50 ∧ ∀ H' p, Same H H' → SqT K H' p ((Fr.red (Fr.pw ns m)).map V.int) → Q (.ref p) H'
theorem ok__law_powered {f : Addr} {fd : FuncData} (F : Fun K "_law_powered" "_law_powered" st__law_powered f fd) (T : Txt K mg) : FnOk P w K mg base CX0 2 f fd ["word", "many"] (spPowered K) := by
  have c__law_back : Cl P w K mg base 1 "_law_back" (spOpp K) := cl__law_back T
  have c__law_bare : Cl P w K mg base 1 "_law_bare" (spLBare K) := cl__law_bare T
  refine F.ok sc__law_powered (fun vs H Q E h => ?_) (fun cdv A outer s H vs Q E hr h => ?_)
  · obtain ⟨a, ns, m, rfl, _⟩ := h
    rfl
  · obtain ⟨a, ns, m, rfl, h, hz, m0, m5, k⟩ := h
    refine ⟨_, (pss_cons (ps_set (i := 2) sc__law_powered.nd rfl (Or.inl rfl) (pe_tup pa_nil)) (pss_cons (ps_for PassesOwn.never rfl (pi_range1 rfl T.n_range (pa_cons (pe_ifExp (pt_cmpR (kop_neD (K := K) hr.units) (pv 0) (pe_tup pa_nil) (nomark _)) (pe_callB call_abs (by rfl) T.n_abs bo_abs (pa_cons (pv 1) pa_nil)) pe_int) pa_nil)) (pg_name (i := 3) sc__law_powered.nd rfl (Or.inl rfl)) (pss_one (ps_set (i := 2) sc__law_powered.nd rfl (Or.inl rfl) (pe_op (kop_catA (K := K)) (pv 2) (pv 0))))) (pss_one (ps_ret (pe_f c__law_bare hr (by decide) rfl (pa_cons (pe_ifExp (pt_cmpR op_ge (pv 1) pe_int (nomark _)) (pv 2) (pe_f c__law_back hr (by decide) rfl (pa_cons (pv 2) pa_nil))) pa_nil)))))), ?_⟩
    refine ⟨Nat.zero_le _, fun p hp => ⟨.ref a, rfl, Nat.zero_le _, fun z hzn => ne_tup (ms := []) (same_tup (Same.trans (new_same hp) (new_same hzn)) h) (tup_of upd_same) ⟨_, rfl, ?_⟩⟩⟩
    have s0 : Same H (upd (upd H p (.tup [])) z (.tup [])) := Same.trans (new_same hp) (new_same hzn)
    have t0 : SqT K (upd (upd H p (.tup [])) z (.tup [])) p (([] : List Int).map V.int) := same_tup (new_same hzn) (tup_of upd_same)
    generalize upd (upd H p (.tup [])) z (.tup []) = H1 at s0 t0
    let Pv : Nat → L2.St → Hp → Prop := fun i σ H' => Same H H' ∧ ∃ (q : Addr) (x : Option V), SqT K H' q ((Fr.rep ns i).map V.int) ∧ σ = [some (.ref a), some (.int m), some (.ref q), x]
    have nb : ∀ j : Nat, j ≤ 50 → j * ns.length ≤ 10000 := fun j hj => Nat.le_trans (Nat.mul_le_mul hj hz) (by decide)
    have step : ∀ (i N : Nat) (σ : L2.St) (H' : Hp) (R : L2.St → Hp → Prop), i < N → N ≤ 50 → Pv i σ H' → (∀ σ' H', Pv (i + 1) σ' H' → R σ' H') → ∀ y : V, (tAsg (tOp (rCatA K) (tVar 2) (tVar 0)) (gName 2)) { nx := R, rt := Q } (σ.set 3 (some y)) H' := fun i N σ H' R hi hN p hR y => by
      obtain ⟨s1, q, x, hq, rfl⟩ := p
      refine ⟨.ref q, rfl, .ref a, rfl, cat_ints hq (same_tup s1 h) (by rw [Fr.rep_len]; have := nb i (by omega); omega) fun H2 q2 e2 h2 => hR _ _ ⟨Same.trans s1 e2, q2, _, h2, rfl⟩⟩
    have fin : ∀ (j : Nat) (σ : L2.St) (H' : Hp), (if m < 0 then -m else m) = (j : Int) ∨ ns = [] → j ≤ 50 → Pv j σ H' → (tRet (tFn (spLBare K) (tCons (tIf (tTest (tOp (rI0 fun i j => V.bl (decide (j ≤ i))) (tVar 1) (tC (.int 0)))) (tVar 2) (tFn (spOpp K) (tCons (tVar 2) tNil))) tNil))) { nx := fun _ H' => Q .non H', rt := Q } σ H' := fun j σ H' hj hj5 p => by
      obtain ⟨s1, q, x, hq, rfl⟩ := p
      have hl : (Fr.rep ns j).length ≤ 20000 := by rw [Fr.rep_len]; have := nb j hj5; omega
      refine ⟨.int m, rfl, _, _, rfl, rfl, _, rfl, ite2 (fun h1 => ?_) fun h1 => ?_⟩
      · have h1 : 0 ≤ m := of_decide_eq_true h1
        refine ⟨.ref q, rfl, q, _, rfl, .inr hq, hl, fun H2 p e2 hp => k _ _ (Same.trans s1 e2) ?_⟩
        have e : Fr.pw ns m = Fr.rep ns j := by
          unfold Fr.pw
          rw [if_neg (by omega)]
          rcases hj with hj | hj
          · rw [if_neg (by omega)] at hj
            rw [hj, Int.toNat_natCast]
          · rw [hj, Fr.rep_nil, Fr.rep_nil]
        rw [e]
        exact hp
      · have h1 : ¬ 0 ≤ m := fun z => h1 (decide_eq_true z)
        refine ⟨.ref q, rfl, q, _, rfl, hq, hl, fun H3 u e3 hu => ⟨u, _, rfl, .inr hu, by rw [Fr.opp_len]; exact hl, fun H2 p e2 hp => k _ _ (Same.trans (Same.trans s1 e3) e2) ?_⟩⟩
        have e : Fr.pw ns m = Fr.opp (Fr.rep ns j) := by
          unfold Fr.pw
          rw [if_pos (by omega), Fr.opp_rep]
          rcases hj with hj | hj
          · rw [if_pos (by omega)] at hj
            rw [hj, Int.toNat_natCast]
          · subst hj
            rw [show Fr.opp [] = [] from rfl, Fr.rep_nil, Fr.rep_nil]
        rw [e]
        exact hp
    by_cases hn : ns = []
    · rw [show (!decide (ns = [])) = false by rw [hn]; rfl]
      refine ⟨0, rfl, by decide, by decide, for_range (lo := 0) (n := (0 : Int).toNat) Pv ⟨s0, p, none, t0, rfl⟩ (fun i σ H' hi => absurd hi (Nat.not_lt_zero _)) fun σ H' q => fin 0 σ H' (.inr hn) (by decide) q⟩
    · rw [show (!decide (ns = [])) = true by rw [decide_eq_false hn]; rfl]
      refine ⟨.int m, rfl, m, rfl, _, rfl, by split <;> omega, by split <;> omega, for_range (lo := 0) Pv ⟨s0, p, none, t0, rfl⟩ (fun i σ H' hi q => step i _ σ H' _ hi (by split <;> omega) q (fun _ _ z => z) _) fun σ H' q => fin _ σ H' (.inl (by rw [Int.toNat_of_nonneg (by split <;> omega)])) (by split <;> omega) q⟩
theorem cl__law_powered (T : Txt K mg) : Cl P w K mg base 2 "_law_powered" (spPowered K) := by
  obtain ⟨f, fd, F, hm, hb⟩ := T.f__law_powered
  exact cl_of (ok__law_powered F T) hm F.kp hb
def spLCore (K : PySem.W.Frag) : Sp := fun vs H Q _ => ∃ (n : Int) (a : Addr) (ns : List Int), vs = [.ref a] ∧ SqT K H a (ns.map V.int) ∧ Wd n ns ∧ ns.length ≤ 1000 ∧ ∀ H' p c m, Same H H' → Rg.Spl ns c m → SqT K H' p (m.map V.int) → Q (.ref p) H'
def Stp (m : List Int) : Prop := ∀ t q, m = (-q) :: (t ++ [q]) → False
theorem cutI_in (p q : Int) (t : List Int) : cutI (p :: (t ++ [q])) (some 1) (some (-1)) = t := by
  unfold cutI
  have e1 : HT.sIx (p :: (t ++ [q])).length 0 (some 1) = 1 := by
    rw [show (some (1 : Int)) = some ((1 : Nat) : Int) from rfl, HT.sIx_nat]
    simp
  have e2 : HT.sIx (p :: (t ++ [q])).length (p :: (t ++ [q])).length (some (-1)) = t.length + 1 := by
    show (if (-1 : Int) < 0 then ((-1 : Int) + ((p :: (t ++ [q])).length : Int)).toNat else min (-1 : Int).toNat (p :: (t ++ [q])).length) = _
    rw [if_pos (by decide)]
    simp only [List.length_cons, List.length_append, List.length_nil]
    omega
  rw [e1, e2]
  show ((t ++ [q]).take (t.length + 1 - 1)) = t
  rw [Nat.add_sub_cancel, List.take_left]
theorem spl_stp {n : Int} {ns c m : List Int} (hw : Wd n ns) (s : ns = c ++ m ++ Fr.opp c) (h : Stp m) : Rg.Spl ns c m := by
  have nf : Fr.Nf (c ++ m ++ Fr.opp c) := s ▸ hw.nf
  refine ⟨s, fun q => ?_, fun q => ⟨fun e => ?_, fun x y hx hy e => ?_⟩⟩
  · rw [q] at s
    have := congrArg List.length s
    simp only [List.length_append, List.length_nil] at this
    exact ⟨List.eq_nil_of_length_eq_zero (by omega), List.eq_nil_of_length_eq_zero (by omega)⟩
  · subst e
    by_cases hc : c = []
    · subst hc; exact q s
    · obtain ⟨t, z, rfl⟩ := Rg.snoc_of hc
      rw [List.append_nil] at nf
      exact Rg.nf_jn nf (Rg.last_snoc t z) (by rw [Fr.opp_app]; rfl) (by omega : z = - -z)
  · cases m with
    | nil => cases hy
    | cons p u =>
      cases hy
      by_cases hu : u = []
      · subst hu
        have hx : y = x := Option.some.inj hx
        have := (hw.lt y (by rw [s]; simp)).1
        omega
      · obtain ⟨t, z, rfl⟩ := Rg.snoc_of hu
        rw [← List.cons_append, Rg.last_snoc] at hx
        cases hx
        exact h t x (by rw [show y = -x by omega])
theorem ok__law_core {f : Addr} {fd : FuncData} (F : Fun K "_law_core" "_law_core" st__law_core f fd) (T : Txt K mg) : FnOk P w K mg base CX0 1 f fd ["word"] (spLCore K) := by
  refine F.ok sc__law_core (fun vs H Q E h => ?_) (fun cdv A outer s H vs Q E hr h => ?_)
  · obtain ⟨n, a, ns, rfl, _⟩ := h
    rfl
  · obtain ⟨n, a, ns, rfl, h, hw, hz, k⟩ := h
    refine ⟨_, (pss_cons (ps_set (i := 1) sc__law_core.nd rfl (Or.inl rfl) (pv 0)) (pss_cons (ps_for PassesOwn.never rfl (pi_range1 rfl T.n_range (pa_cons (pe_callB (kcall_len (K := K)) (by rfl) T.n_len bo_len (pa_cons (pv 0) pa_nil)) pa_nil)) (pg_name (i := 2) sc__law_core.nd rfl (Or.inl rfl)) (pss_one (ps_if (PW.pt (pw_and (pt_cmpR op_gt (pe_callB (kcall_len (K := K)) (by rfl) T.n_len bo_len (pa_cons (pv 1) pa_nil)) pe_int (nomark _)) (pw_and1 (pt_cmpR op_eq (pe_ix (kix_tup (K := K)) (pv 1) pe_int (fun _ _ => rfl)) (pe_op op_sub pe_int (pe_ix (kix_tup (K := K)) (pv 1) (pe_un un_neg pe_int) (fun _ _ => rfl))) (nomark _))))) (pss_one (ps_set (i := 1) sc__law_core.nd rfl (Or.inl rfl) (pe_slice (ksl_tupA (K := K)) (pv 1) (po_some pe_int) (po_some (pe_un un_neg pe_int))))) pss_nil))) (pss_one (ps_ret (pv 1))))), ?_⟩
    refine ⟨.ref a, rfl, .ref a, rfl, a, _, rfl, .inr h, ?_⟩
    rw [List.length_map]
    refine ⟨_, rfl, by omega, by omega, for_range (lo := 0) (n := ns.length) (fun i σ H' => Same H H' ∧ ∃ (g : Addr) (c m : List Int) (x : Option V), SqT K H' g (m.map V.int) ∧ ns = c ++ m ++ Fr.opp c ∧ (c.length = i ∨ Stp m) ∧ σ = [some (.ref a), some (.ref g), x]) ⟨Same.refl _, a, [], ns, none, h, by simp [Fr.opp], .inl rfl, rfl⟩ (fun i σ H' hi p => ?_) fun σ H' p => ?_⟩
    · obtain ⟨e1, g, c, m, x, hg, hs, hd, rfl⟩ := p
      refine ⟨.ref g, rfl, g, _, rfl, .inr hg, _, _, rfl, rfl, _, rfl, ite2 (fun h1 => ?_) fun h1 => ?_⟩
      · have h1 : 1 < m.length := by have := of_decide_eq_true h1; rw [List.length_map] at this; omega
        obtain ⟨p, t, q, rfl⟩ : ∃ p t q, m = p :: (t ++ [q]) := by
          cases m with
          | nil => simp at h1
          | cons p u =>
            obtain ⟨t, q, rfl⟩ := Rg.snoc_of (m := u) (fun e => by subst e; simp at h1)
            exact ⟨p, t, q, rfl⟩
        refine ⟨.ref g, rfl, g, _, 0, .int p, rfl, rfl, hg, atI_nat (j := 0) rfl, .ref g, rfl, 1, rfl, g, _, _, .int q, rfl, rfl, hg, by rw [← List.cons_append, List.map_append]; exact atI_last _ _, _, _, rfl, rfl, rfl, _, rfl, ?_⟩
        rw [dec_int]
        refine ite2 (fun h2 => ?_) fun h2 => ?_
        · have h2 : p = 0 - q := of_decide_eq_true h2
          have hp : p = -q := by omega
          subst hp
          have hc : c.length = i := hd.elim id fun z => (z t q rfl).elim
          refine ⟨.ref g, rfl, 1, rfl, 1, rfl, _, rfl, sl_ints hg fun H2 p2 e2 hp2 => ?_⟩
          refine ⟨Same.trans e1 e2, p2, c ++ [-q], t, some (.int (0 + i)), ?_, ?_, .inl (by rw [List.length_append, hc]; rfl), rfl⟩
          · exact (cutI_in (-q) q t) ▸ hp2
          · rw [hs, Fr.opp_app]
            show c ++ -q :: (t ++ [q]) ++ Fr.opp c = c ++ [-q] ++ t ++ ([- -q] ++ Fr.opp c)
            rw [Int.neg_neg]
            simp [List.append_assoc]
        · have h2 : ¬ p = -q := fun z => h2 (decide_eq_true (by omega))
          refine ⟨e1, g, c, p :: (t ++ [q]), some (.int (0 + i)), hg, hs, .inr fun t' q' z => ?_, rfl⟩
          injection z with z1 z2
          have := congrArg List.getLast? z2
          rw [Rg.last_snoc, Rg.last_snoc] at this
          injection this with this
          exact h2 (by rw [z1, this])
      · have h1 : ¬ 1 < m.length := fun z => h1 (decide_eq_true (by rw [List.length_map]; omega))
        refine ⟨e1, g, c, m, some (.int (0 + i)), hg, hs, .inr fun t q z => ?_, rfl⟩
        rw [z] at h1
        simp at h1
    · obtain ⟨e1, g, c, m, x, hg, hs, hd, rfl⟩ := p
      refine ⟨.ref g, rfl, k _ _ c m e1 ?_ hg⟩
      refine spl_stp hw hs ?_
      rcases hd with q | q
      · have := congrArg List.length hs
        rw [List.length_append, List.length_append, Fr.opp_len] at this
        have e : m = [] := List.eq_nil_of_length_eq_zero (by omega)
        subst e
        intro t q z
        cases z
      · exact q
theorem cl__law_core (T : Txt K mg) : Cl P w K mg base 1 "_law_core" (spLCore K) := by
  obtain ⟨f, fd, F, hm, hb⟩ := T.f__law_core
  exact cl_of (ok__law_core F T) hm F.kp hb
def ons (n : Int) (os : List (Option Int)) : List Int := (os.filter fun o => !okE n o).map fun _ => 1
theorem ons_nil {n : Int} {os : List (Option Int)} : ons n os = [] ↔ os.all (okE n) = true := by
  unfold ons
  rw [List.map_eq_nil_iff, List.filter_eq_nil_iff, List.all_eq_true]
  exact ⟨fun h x hx => by have := h x hx; simpa using this, fun h x hx => by have := h x hx; simp [this]⟩
def spIsWordL (K : PySem.W.Frag) : Sp := fun vs H Q _ => ∃ (n : Int) (v : V) (o : Option (List (Option Int))), vs = [.int n, v] ∧ Va K H v o ∧ ∀ H', Same H H' → Q (.bl (bareV n 200 o)) H'
theorem ok__law_is_word {f : Addr} {fd : FuncData} (F : Fun K "_law_is_word" "_law_is_word" st__law_is_word f fd) (T : Txt K mg) : FnOk P w K mg base CX0 2 f fd ["letters", "value"] (spIsWordL K) := by
  have c__law_bare : Cl P w K mg base 1 "_law_bare" (spLBare K) := cl__law_bare T
  refine F.ok sc__law_is_word (fun vs H Q E h => ?_) (fun cdv A outer s H vs Q E hr h => ?_)
  · obtain ⟨n, v, o, rfl, _⟩ := h
    rfl
  · obtain ⟨n, v, o, rfl, va, k⟩ := h
    refine ⟨_, (pss_cons (ps_if (PW.pt (pw_or (pt_not (pt_val (pe_callB (kcall_isi (K := K)) (by rfl) T.n_isinstance bo_isinstance (pa_cons (pv 1) (pa_cons (pe_bltn (by rfl) T.n_tuple bo_tuple rel_ty) pa_nil))))) (pw_or1 (pt_cmpR op_gt (pe_callB (kcall_len (K := K)) (by rfl) T.n_len bo_len (pa_cons (pv 1) pa_nil)) pe_int (nomark _))))) (pss_one (ps_ret pe_bl)) pss_nil) (pss_cons (ps_if (pt_cmpR (kop_neD (K := K) hr.units) (pe_lc (own := [("one", 2)]) rfl sc__law_is_word.nd (kpi_tup (K := K) (pv 1)) (blkOk_by (N := nm__law_is_word) (sc := defScope st__law_is_word) (by decide +kernel)) (fun _ _ _ _ _ => (pg_name (i := 2) sc__law_is_word.nd rfl (by first | exact Or.inl rfl | exact Or.inr rfl))) (fun _ _ _ _ _ => pts_one (PW.pt (pw_or (pt_val (pe_callB (kcall_isi (K := K)) (by rfl) T.n_isinstance bo_isinstance (pa_cons (pv 2) (pa_cons (pe_bltn (by rfl) T.n_bool bo_bool rel_ty) pa_nil)))) (pw_or (pt_not (pt_val (pe_callB (kcall_isi (K := K)) (by rfl) T.n_isinstance bo_isinstance (pa_cons (pv 2) (pa_cons (pe_bltn (by rfl) T.n_int bo_int rel_ty) pa_nil))))) (pw_or1 (pt_not (pt_chain op_le op_le pe_int (pe_callB call_abs (by rfl) T.n_abs bo_abs (pa_cons (pv 2) pa_nil)) (pv 0)))))))) (fun _ _ _ _ _ => pe_int)) (pe_lst pa_nil) (nomark _)) (pss_one (ps_ret pe_bl)) pss_nil) (pss_one (ps_ret (pe_cmpR (kop_eqD (K := K) hr.units) (pe_f c__law_bare hr (by decide) rfl (pa_cons (pv 1) pa_nil)) (pv 1) (nomark _)))))), ?_⟩
    cases va with
    | oth hv kt =>
      refine ⟨v, rfl, v, _, _, _, false, rfl, .ty _, hv, kit_ty kt, false, rfl, ?_⟩
      exact k _ (Same.refl _)
    | @tup c xs os hx hxl he =>
      refine ⟨.ref c, rfl, .ref c, _, _, _, true, rfl, .ty _, tyx_tup hx, kit_ty (by decide +kernel), true, rfl, ?_⟩
      refine iteF ⟨.ref c, rfl, c, xs, rfl, .inr hx, _, _, rfl, rfl, _, rfl, ?_⟩
      refine ite2 (fun h1 => ?_) fun h1 => ?_
      · have h1 := of_decide_eq_true h1
        have e : bareV n 200 (some os) = false := by
          show ((!decide ((200 : Int) < (os.length : Int)) && os.all (okE n)) && _) = false
          rw [decide_eq_true (by rw [← hxl]; exact h1)]
          rfl
        have := k _ (Same.refl _)
        rw [e] at this
        exact this
      · have h1 : ¬ (200 : Int) < (xs.length : Int) := fun q => h1 (decide_eq_true q)
        refine ⟨.ref c, rfl, c, rfl, ⟨xs, hx⟩, fun D hD => lc_tup (K := K) (a := c) (xs := xs) (fun i H' => Same H H' ∧ H' D = some (.lst ((ons n (os.take i)).map V.int))) ⟨new_same hD, upd_same⟩ (fun i H' _ p => same_tup p.1 hx) (fun i x H' hxi p => ?_) fun H' p => ?_⟩
        · refine ⟨rfl, ?_⟩
          have hi : i < xs.length := (List.getElem?_eq_some_iff.mp hxi).1
          obtain ⟨o, ho⟩ : ∃ o, os[i]? = some o := ⟨os[i]'(by omega), List.getElem?_eq_getElem _⟩
          have en := (he i x o hxi ho).same p.1
          have e1 : ons n (os.take (i + 1)) = ons n (os.take i) ++ ons n [o] := by
            unfold ons
            rw [List.take_succ, ho, List.filter_append, List.map_append]
            rfl
          have yes : okE n o = false → ∃ acc, H' D = some (.lst acc) ∧ acc.length < sizeLine ∧ (Same H (upd H' D (.lst (acc ++ [V.int 1]))) ∧ upd H' D (.lst (acc ++ [V.int 1])) D = some (.lst ((ons n (os.take (i + 1))).map V.int))) := fun z => by
            refine ⟨_, p.2, small1000 ?_, same_mut p.1 hD, ?_⟩
            · rw [List.length_map]
              unfold ons
              rw [List.length_map]
              have := List.length_filter_le (fun o => !okE n o) (os.take i)
              rw [List.length_take] at this
              omega
            · rw [upd_same, e1, List.map_append]
              have : ons n [o] = [1] := by unfold ons; rw [List.filter_cons, z]; rfl
              rw [this]
              rfl
          have no : okE n o = true → (Same H H' ∧ H' D = some (.lst ((ons n (os.take (i + 1))).map V.int))) := fun z => ⟨p.1, by
            have : ons n [o] = [] := by unfold ons; rw [List.filter_cons, z]; rfl
            rw [e1, this, List.append_nil]
            exact p.2⟩
          cases en with
          | oth h0 k1 k2 k3 =>
            rename_i t ib bb
            refine ⟨x, rfl, x, _, _, _, bb, rfl, .ty _, h0, kit_ty k2, bb, rfl, ?_⟩
            cases bb with
            | true => exact iteT (yes rfl)
            | false =>
              refine iteF ⟨x, rfl, x, _, _, _, ib, rfl, .ty _, h0, kit_ty k1, ib, rfl, ?_⟩
              have : ib = false := by cases ib with
                | false => rfl
                | true => cases k3
              subst this
              exact iteT (yes rfl)
          | int i1 =>
            refine ⟨.int i1, rfl, .int i1, _, _, _, false, rfl, .ty _, .base (.int i1), kit_ty (by decide +kernel), false, rfl, ?_⟩
            refine iteF ⟨.int i1, rfl, .int i1, _, _, _, true, rfl, .ty _, .base (.int i1), kit_ty (by decide +kernel), true, rfl, ?_⟩
            refine iteF ⟨.int i1, rfl, i1, rfl, _, _, rfl, rfl, _, rfl, ?_⟩
            have eo : okE n (some i1) = (decide (1 ≤ (if i1 < 0 then -i1 else i1)) && decide ((if i1 < 0 then -i1 else i1) ≤ n)) := rfl
            refine ite2 (fun q1 => ⟨.int n, rfl, _, _, rfl, rfl, _, rfl, ?_⟩) fun q1 => ⟨_, rfl, ?_⟩
            · rw [q1, Bool.true_and] at eo
              rw [← eo]
              cases z : okE n (some i1) with
              | true => exact no z
              | false => exact yes z
            · rw [Bool.eq_false_iff.mpr q1, Bool.false_and] at eo
              exact yes eo
        · refine ⟨Nat.zero_le _, fun z hz => ?_⟩
          have nz : D ≠ z := fun q => by rw [← q, p.2] at hz; cases hz
          have d2 : upd H' z (.lst []) D = some (.lst ((ons n (os.take xs.length)).map V.int)) := by rw [upd_ne nz]; exact p.2
          have e2 := Same.trans p.1 (new_same (o := .lst []) hz)
          have dz : upd H' z (.lst []) z = some (.lst (([] : List Int).map V.int)) := upd_same
          generalize upd H' z (.lst []) = H2 at d2 e2 dz
          rw [List.take_of_length_le (by omega)] at d2
          refine ne_list (lst_of d2) (lst_of dz) ⟨_, rfl, ite2 (fun g1 => ?_) fun g1 => ?_⟩
          · have g1 : ¬ ons n os = [] := by simpa using g1
            have e : bareV n 200 (some os) = false := by
              show ((_ && os.all (okE n)) && _) = false
              rw [Bool.eq_false_iff.mpr fun q => g1 (ons_nil.mpr q)]
              rw [Bool.and_false, Bool.false_and]
            have := k _ e2
            rw [e] at this
            exact this
          · have g1 : ons n os = [] := by simpa using g1
            have hall := ons_nil.mp g1
            have e0 := all_some hall
            have ex := ints_of hxl he e0
            have el : (intsOf os).length = xs.length := by rw [ex, List.length_map]
            rw [ex] at hx
            generalize hms : intsOf os = ms at *
            have hx2 := same_tup e2 hx
            have ed : bareV n 200 (some os) = decide (Fr.red ms = ms) := by
              show ((!decide ((200 : Int) < (os.length : Int)) && os.all (okE n)) && nfB (intsOf os)) = _
              rw [hms, hall, decide_eq_false (by omega : ¬ (200 : Int) < (os.length : Int))]
              have : nfB ms = decide (Fr.red ms = ms) := by
                cases q : nfB ms with
                | true => exact (decide_eq_true (Fr.red_id (nfB_iff.mp q))).symm
                | false => exact (decide_eq_false fun z => by
                    have := Fr.red_nf ms
                    rw [z] at this
                    rw [nfB_iff.mpr this] at q
                    cases q).symm
              rw [this]
              rfl
            refine ⟨.ref c, rfl, c, ms, rfl, .inr hx2, by omega, fun H3 p3 e3 h3 => ⟨.ref c, rfl, eq_tup h3 (same_tup e3 hx2) ?_⟩⟩
            have := k _ (Same.trans e2 e3)
            rw [ed] at this
            exact this
theorem cl__law_is_word (T : Txt K mg) : Cl P w K mg base 2 "_law_is_word" (spIsWordL K) := by
  obtain ⟨f, fd, F, hm, hb⟩ := T.f__law_is_word
  exact cl_of (ok__law_is_word F T) hm F.kp hb
def spLRoot (K : PySem.W.Frag) : Sp := fun vs H Q _ => ∃ (n : Int) (a : Addr) (ns : List Int), vs = [.ref a] ∧ SqT K H a (ns.map V.int) ∧ Wd n ns ∧ ns ≠ [] ∧ ns.length ≤ 200 ∧ ∀ H' t p r e, Same H H' → Rg.RootW ns r e → SqT K H' t [.ref p, .int ((e : Nat) : Int)] → SqT K H' p (r.map V.int) → Q (.ref t) H'
theorem div2 {a b n : Nat} (h : a + b + a = n) : ((n : Int) - (b : Int)) / 2 = (a : Int) := by omega
theorem rep_size {m : List Int} {q : Nat} (hq : 0 < q) (hl : q ≤ m.length) (h : Fr.rep (m.take q) (m.length / q) = m) : m.length % q = 0 := by
  have := congrArg List.length h
  rw [Fr.rep_len, List.length_take, Nat.min_eq_left hl] at this
  exact Nat.mod_eq_zero_of_dvd ⟨m.length / q, by rw [Nat.mul_comm]; exact this.symm⟩
theorem ok__law_root {f : Addr} {fd : FuncData} (F : Fun K "_law_root" "_law_root" st__law_root f fd) (T : Txt K mg) : FnOk P w K mg base CX0 2 f fd ["word"] (spLRoot K) := by
  have c__law_core : Cl P w K mg base 1 "_law_core" (spLCore K) := cl__law_core T
  have c__law_bare : Cl P w K mg base 1 "_law_bare" (spLBare K) := cl__law_bare T
  have c__law_back : Cl P w K mg base 1 "_law_back" (spOpp K) := cl__law_back T
  refine F.ok sc__law_root (fun vs H Q E h => ?_) (fun cdv A outer s H vs Q E hr h => ?_)
  · obtain ⟨n, a, ns, rfl, _⟩ := h
    rfl
  · obtain ⟨n, a, ns, rfl, h, hw, hne, hz, k⟩ := h
    refine ⟨_, (pss_cons (ps_set (i := 1) sc__law_root.nd rfl (Or.inl rfl) (pe_f c__law_core hr (by decide) rfl (pa_cons (pv 0) pa_nil))) (pss_cons (ps_set (i := 2) sc__law_root.nd rfl (Or.inl rfl) (pe_slice (ksl_tupA (K := K)) (pv 0) po_none (po_some (pe_op op_fdivW (pe_op op_sub (pe_callB (kcall_len (K := K)) (by rfl) T.n_len bo_len (pa_cons (pv 0) pa_nil)) (pe_callB (kcall_len (K := K)) (by rfl) T.n_len bo_len (pa_cons (pv 1) pa_nil))) pe_int)))) (pss_cons (ps_for PassesOwn.never rfl (pi_range2 rfl T.n_range (pa_cons pe_int (pa_cons (pe_op op_add (pe_callB (kcall_len (K := K)) (by rfl) T.n_len bo_len (pa_cons (pv 1) pa_nil)) pe_int) pa_nil))) (pg_name (i := 3) sc__law_root.nd rfl (Or.inl rfl)) (pss_one (ps_if (PW.pt (pw_and (pt_cmpR op_eq (pe_op op_mod (pe_callB (kcall_len (K := K)) (by rfl) T.n_len bo_len (pa_cons (pv 1) pa_nil)) (pv 3)) pe_int (nomark _)) (pw_and1 (pt_cmpR (kop_eqD (K := K) hr.units) (pe_op (kop_repA (K := K)) (pe_slice (ksl_tupA (K := K)) (pv 1) po_none (po_some (pv 3))) (pe_op op_fdivW (pe_callB (kcall_len (K := K)) (by rfl) T.n_len bo_len (pa_cons (pv 1) pa_nil)) (pv 3))) (pv 1) (nomark _))))) (pss_one (ps_ret (pe_tup (pa_cons (pe_f c__law_bare hr (by decide) rfl (pa_cons (pe_op (kop_catA (K := K)) (pe_op (kop_catA (K := K)) (pv 2) (pe_slice (ksl_tupA (K := K)) (pv 1) po_none (po_some (pv 3)))) (pe_f c__law_back hr (by decide) rfl (pa_cons (pv 2) pa_nil))) pa_nil)) (pa_cons (pe_op op_fdivW (pe_callB (kcall_len (K := K)) (by rfl) T.n_len bo_len (pa_cons (pv 1) pa_nil)) (pv 3)) pa_nil))))) pss_nil))) (pss_one (ps_ret pe_non))))), ?_⟩
    refine ⟨.ref a, rfl, n, a, ns, rfl, h, hw, by omega, fun H1 pm c m e1 hs hm => ?_⟩
    have ll := congrArg List.length hs.1
    rw [List.length_append, List.length_append, Fr.opp_len] at ll
    have mn := (hs.2.2 hne).1
    have mp := List.length_pos_iff.mpr mn
    refine ⟨.ref a, rfl, nopart ⟨.ref a, rfl, a, _, rfl, .inr (same_tup e1 h), .ref pm, rfl, pm, _, rfl, .inr hm, _, _, rfl, rfl, _, _, rfl, rfl, ⟨by decide, by decide +kernel⟩, ((c.length : Nat) : Int), ?_, ?_⟩⟩
    · rw [List.length_map, List.length_map]
      exact congrArg V.int (div2 ll.symm)
    refine sl_ints (same_tup e1 h) fun H2 pc e2 hc => ?_
    rw [cutI_to, show ns.take c.length = c by conv => lhs; rw [hs.1, List.append_assoc, List.take_left]] at hc
    have hm := same_tup e2 hm
    have e02 := Same.trans e1 e2
    refine ⟨.ref pm, rfl, pm, _, rfl, .inr hm, _, _, rfl, rfl, ?_⟩
    rw [List.length_map]
    refine ⟨1, _, rfl, ⟨by decide, by decide, by omega, by omega⟩, ?_⟩
    rw [show ((m.length : Int) + 1 - 1).toNat = m.length by omega]
    refine for_range (lo := 1) (n := m.length) (fun i σ H' => Same H2 H' ∧ (∀ q, 0 < q → q ≤ i → Fr.rep (m.take q) (m.length / q) ≠ m) ∧ ∃ x, σ = [some (.ref a), some (.ref pm), some (.ref pc), x]) ⟨Same.refl _, fun q q0 q1 => by omega, none, rfl⟩ (fun i σ H' hi p => ?_) fun σ H' p => ?_
    · obtain ⟨e3, hd, x, rfl⟩ := p
      have hm := same_tup e3 hm
      have hc := same_tup e3 hc
      rw [show (1 : Int) + (i : Int) = ((i + 1 : Nat) : Int) by omega]
      generalize hdi : i + 1 = d at *
      have d0 : 0 < d := by omega
      have dl : d ≤ m.length := by omega
      have nx : ∀ H4, Same H' H4 → Fr.rep (m.take d) (m.length / d) ≠ m → Same H2 H4 ∧ (∀ q, 0 < q → q ≤ d → Fr.rep (m.take q) (m.length / q) ≠ m) ∧ ∃ x, [some (V.ref a), some (V.ref pm), some (V.ref pc), some (V.int (d : Int))] = [some (V.ref a), some (V.ref pm), some (V.ref pc), x] := fun H4 e4 z => ⟨Same.trans e3 e4, fun q q0 q1 => by
        by_cases y : q = d
        · subst y; exact z
        · exact hd q q0 (by omega), _, rfl⟩
      refine ⟨.ref pm, rfl, pm, _, rfl, .inr hm, .int (d : Int), rfl, _, _, rfl, rfl, by show (0 : Int) < (d : Int); omega, rfl, _, rfl, ?_⟩
      rw [dec_int, List.length_map]
      have hmod : (m.length : Int) % (d : Int) = ((m.length % d : Nat) : Int) := (Int.natCast_emod _ _).symm
      have hdiv : (m.length : Int) / (d : Int) = ((m.length / d : Nat) : Int) := (Int.natCast_ediv _ _).symm
      refine ite2 (fun q1 => ?_) fun q1 => ?_
      · refine ⟨.ref pm, rfl, nopart ⟨.int (d : Int), rfl, _, rfl, sl_ints hm fun H4 p4 e4 h4 => ⟨.ref pm, rfl, pm, _, rfl, .inr (same_tup e4 hm), .int (d : Int), rfl, _, _, rfl, rfl, wide_div (b := 200) (by show (0 : Int) < (d : Int); omega) (small200 (by omega)) (by decide) (by decide), ?_⟩⟩⟩
        rw [cutI_to] at h4
        have hv : (fun i j : Int => V.int (i / j)) (((m.map V.int).length : Nat) : Int) (d : Int) = .int ((m.length / d : Nat) : Int) := by
          rw [List.length_map]
          exact congrArg V.int hdiv
        rw [hv]
        have hq0 : 0 < m.length / d := Nat.div_pos dl d0
        have hq1 : m.length / d ≤ m.length := Nat.div_le_self _ _
        refine rep_ints h4 (by omega) (by omega) (by rw [List.length_take]; omega) fun H5 p5 e5 h5 => ⟨.ref pm, rfl, eq_tup h5 (same_tup (Same.trans e4 e5) hm) ⟨_, rfl, ?_⟩⟩
        rw [Int.toNat_natCast]
        have e45 := Same.trans e4 e5
        refine ite2 (fun q2 => ?_) fun q2 => ?_
        · have q2 : Fr.rep (m.take d) (m.length / d) = m := of_decide_eq_true q2
          have rt : Rg.RootW ns (c ++ m.take d ++ Fr.opp c) (m.length / d) := ⟨c, m, d, hs, hne, ⟨d0, dl, q2, fun q y1 y2 => hd q y1 (by omega)⟩, rfl, rfl⟩
          have nfr := (rootw_wd hw rt).1.nf
          have hm := same_tup e45 hm
          have hc := same_tup e45 hc
          refine ⟨.ref pc, rfl, .ref pm, rfl, nopart ⟨.int (d : Int), rfl, _, rfl, sl_ints hm fun H6 p6 e6 h6 => ?_⟩⟩
          rw [cutI_to] at h6
          refine cat_ints (same_tup e6 hc) h6 (by rw [List.length_take]; omega) fun H7 p7 e7 h7 => ⟨.ref pc, rfl, pc, c, rfl, same_tup (Same.trans e6 e7) hc, by omega, fun H8 p8 e8 h8 => cat_ints (same_tup e8 h7) h8 (by rw [List.length_append, List.length_take, Fr.opp_len]; omega) fun H9 p9 e9 h9 => ⟨p9, _, rfl, .inr h9, by simp only [List.length_append, List.length_take, Fr.opp_len]; omega, fun H10 p10 e10 h10 => ?_⟩⟩
          rw [Fr.red_id nfr] at h10
          have e6' := Same.trans (Same.trans (Same.trans (Same.trans e6 e7) e8) e9) e10
          refine ⟨.ref pm, rfl, pm, _, rfl, .inr (same_tup e6' hm), .int (d : Int), rfl, _, _, rfl, rfl, wide_div (b := 200) (by show (0 : Int) < (d : Int); omega) (small200 (by omega)) (by decide) (by decide), by show 2 ≤ sizeLine; decide, fun t ht => ?_⟩
          rw [hv]
          exact k _ t p10 _ _ (Same.trans (Same.trans (Same.trans (Same.trans e02 e3) e45) e6') (new_same ht)) rt (tup_of upd_same) (same_tup (new_same ht) h10)
        · exact nx _ e45 fun z => q2 (decide_eq_true z)
      · refine nx _ (Same.refl _) fun z => q1 ?_
        rw [hmod, rep_size d0 dl z]
        rfl
    · obtain ⟨e3, hd, x, rfl⟩ := p
      exact (hd m.length mp (Nat.le_refl _) (by rw [List.take_length, Nat.div_self mp]; rfl)).elim
theorem cl__law_root (T : Txt K mg) : Cl P w K mg base 2 "_law_root" (spLRoot K) := by
  obtain ⟨f, fd, F, hm, hb⟩ := T.f__law_root
  exact cl_of (ok__law_root F T) hm F.kp hb
def spIsDue (K : PySem.W.Frag) : Sp := fun vs H Q _ => ∃ (n : Int) (a b : Addr) (ns bs : List Int) (v : V) (o : Option (Str × List Di)), vs = [.int n, .ref a, .ref b, v] ∧ SqT K H a (ns.map V.int) ∧ ns.length ≤ 50 ∧ SqT K H b (bs.map V.int) ∧ bs.length ≤ 50 ∧
  Pv K H v o ∧ ∀ H', Same H H' → Q (.bl (paperV n ns bs o)) H'
def dueD (x y : List Int) : PyData := .tuple [tupD x, tupD y]
def twoR (x y : List Int) : List Di → Bool
  | [.row a, .row b] => decide (a = x) && decide (b = y)
  | _ => false
theorem unlV_eq (ns bs : List Int) (ds : List Di) : unlV ns bs ds = (twoR (Fr.red (ns ++ bs)) (Fr.red (bs ++ ns)) ds && !decide (Fr.red (ns ++ bs) = Fr.red (bs ++ ns))) := by
  match ds with
  | [] => rfl
  | [d1] => cases d1 <;> rfl
  | [d1, d2] => cases d1 <;> cases d2 <;> rfl
  | d1 :: d2 :: d3 :: r => cases d1 <;> cases d2 <;> rfl
theorem eqv_due (x y : List Int) (ds : List Di) : PyData.eqv (.tuple (ds.map Di.data)) (dueD x y) = twoR x y ds := by
  have one : ∀ (d : Di) (z : List Int), PyData.eqv d.data (tupD z) = match d with
    | .row a => decide (a = z)
    | _ => false := fun d z => by cases d with
      | row a => exact eqv_tup a z
      | _ => rfl
  match ds with
  | [] => rfl
  | [d1] => show (_ && false) = _; rw [Bool.and_false]; cases d1 <;> rfl
  | d1 :: d2 :: d3 :: r =>
    show (_ && (_ && false)) = _
    rw [Bool.and_false, Bool.and_false]
    cases d1 <;> cases d2 <;> rfl
  | [d1, d2] =>
    show (PyData.eqv d1.data (tupD x) && (PyData.eqv d2.data (tupD y) && true)) = _
    rw [one, one, Bool.and_true]
    cases d1 with
    | row a =>
      cases d2 with
      | row b => rfl
      | _ => exact Bool.and_false _
    | _ => cases d2 <;> rfl
theorem shaped_due (x y : List Int) : SeqAt.shaped (dueD x y) = true := shaped_datas [.row x, .row y]
def ons2 : Di → List Int := fun d => if d.en.isSome then [] else [1]
theorem ne_str {H : Hp} {x y : Str} {Q : VK} (hx : (PyData.str x).canLay0 = true) (hy : (PyData.str y).canLay0 = true) (q : Q (.bl (!decide (x = y))) H) : rNeD K (.str x) (.str y) H Q := by
  have sh : ∀ {z : Str}, (PyData.str z).canLay0 = true → SeqAt.shaped (.str z) = true := fun {z} hz => by
    unfold SeqAt.shaped
    rw [hz]
    rfl
  exact ⟨_, _, .str x, .str y, sh hx, sh hy, by rw [eqv_str]; exact q⟩
theorem ok__law_is_due {f : Addr} {fd : FuncData} (F : Fun K "_law_is_due" "_law_is_due" st__law_is_due f fd) (T : Txt K mg) : FnOk P w K mg base CX0 3 f fd ["letters", "one", "other", "value"] (spIsDue K) := by
  have c__law_bare : Cl P w K mg base 1 "_law_bare" (spLBare K) := cl__law_bare T
  have c__law_is_word : Cl P w K mg base 2 "_law_is_word" (spIsWordL K) := cl__law_is_word T
  have c__law_powered : Cl P w K mg base 2 "_law_powered" (spPowered K) := cl__law_powered T
  refine F.ok sc__law_is_due (fun vs H Q E h => ?_) (fun cdv A outer s H vs Q E hr h => ?_)
  · obtain ⟨n, a, b, ns, bs, v, o, rfl, _⟩ := h
    rfl
  · obtain ⟨n, a, b, ns, bs, v, o, rfl, h, hl, g, gl, hv, k⟩ := h
    refine ⟨_, (pss_cons (ps_if (PW.pt (pw_or (pt_not (pt_val (pe_callB (kcall_isi (K := K)) (by rfl) T.n_isinstance bo_isinstance (pa_cons (pv 3) (pa_cons (pe_bltn (by rfl) T.n_tuple bo_tuple rel_ty) pa_nil))))) (pw_or (pt_cmpR (knotIn (K := K)) (pe_callB (kcall_len (K := K)) (by rfl) T.n_len bo_len (pa_cons (pv 3) pa_nil)) (pe_tup (pa_cons pe_int (pa_cons pe_int pa_nil))) (by rfl)) (pw_or1 (pt_not (pt_val (pe_callB (kcall_isi (K := K)) (by rfl) T.n_isinstance bo_isinstance (pa_cons (pe_ix (kix_tup (K := K)) (pv 3) pe_int (fun _ _ => rfl)) (pa_cons (pe_bltn (by rfl) T.n_str bo_str rel_ty) pa_nil))))))))) (pss_one (ps_ret pe_bl)) pss_nil) (pss_cons (ps_if (pt_cmpR (kop_eqD (K := K) hr.units) (pe_ix (kix_tup (K := K)) (pv 3) pe_int (fun _ _ => rfl)) pe_str (nomark _)) (pss_cons (ps_set (i := 4) sc__law_is_due.nd rfl (Or.inl rfl) (pe_tup (pa_cons (pe_f c__law_bare hr (by decide) rfl (pa_cons (pe_op (kop_catA (K := K)) (pv 1) (pv 2)) pa_nil)) (pa_cons (pe_f c__law_bare hr (by decide) rfl (pa_cons (pe_op (kop_catA (K := K)) (pv 2) (pv 1)) pa_nil)) pa_nil)))) (pss_one (ps_ret (pe_and (pe_cmpR (kop_eqD (K := K) hr.units) (pe_slice (ksl_tupA (K := K)) (pv 3) (po_some pe_int) po_none) (pv 4) (nomark _)) (pe_one (pe_cmpR (kop_neD (K := K) hr.units) (pe_ix (kix_tup (K := K)) (pv 4) pe_int (fun _ _ => rfl)) (pe_ix (kix_tup (K := K)) (pv 4) pe_int (fun _ _ => rfl)) (nomark _))))))) pss_nil) (pss_cons (ps_if (PW.pt (pw_or (pt_cmpR (kop_neD (K := K) hr.units) (pe_ix (kix_tup (K := K)) (pv 3) pe_int (fun _ _ => rfl)) pe_str (nomark _)) (pw_or (pt_cmpR op_ne (pe_callB (kcall_len (K := K)) (by rfl) T.n_len bo_len (pa_cons (pv 3) pa_nil)) pe_int (nomark _)) (pw_or1 (pt_not (pt_val (pe_f c__law_is_word hr (by decide) rfl (pa_cons (pv 0) (pa_cons (pe_ix (kix_tup (K := K)) (pv 3) pe_int (fun _ _ => rfl)) pa_nil))))))))) (pss_one (ps_ret pe_bl)) pss_nil) (pss_cons (ps_if (pt_cmpR (kop_neD (K := K) hr.units) (pe_lc (own := [("entry", 5)]) rfl sc__law_is_due.nd (kpi_tup (K := K) (pe_slice (ksl_tupA (K := K)) (pv 3) (po_some pe_int) po_none)) (blkOk_by (N := nm__law_is_due) (sc := defScope st__law_is_due) (by decide +kernel)) (fun _ _ _ _ _ => (pg_name (i := 5) sc__law_is_due.nd rfl (by first | exact Or.inl rfl | exact Or.inr rfl))) (fun _ _ _ _ _ => pts_one (PW.pt (pw_or (pt_val (pe_callB (kcall_isi (K := K)) (by rfl) T.n_isinstance bo_isinstance (pa_cons (pv 5) (pa_cons (pe_bltn (by rfl) T.n_bool bo_bool rel_ty) pa_nil)))) (pw_or1 (pt_not (pt_val (pe_callB (kcall_isi (K := K)) (by rfl) T.n_isinstance bo_isinstance (pa_cons (pv 5) (pa_cons (pe_bltn (by rfl) T.n_int bo_int rel_ty) pa_nil))))))))) (fun _ _ _ _ _ => pe_int)) (pe_lst pa_nil) (nomark _)) (pss_one (ps_ret pe_bl)) pss_nil) (pss_cons (ps_if (PW.pt (pw_and (pt_cmpR (kop_neD (K := K) hr.units) (pe_ix (kix_tup (K := K)) (pv 3) pe_int (fun _ _ => rfl)) (pe_tup pa_nil) (nomark _)) (pw_and1 (pt_cmpR op_gt (pe_callB (call_max2 rfl) (by rfl) T.n_max bo_max (pa_cons (pe_callB call_abs (by rfl) T.n_abs bo_abs (pa_cons (pe_ix (kix_tup (K := K)) (pv 3) pe_int (fun _ _ => rfl)) pa_nil)) (pa_cons (pe_callB call_abs (by rfl) T.n_abs bo_abs (pa_cons (pe_ix (kix_tup (K := K)) (pv 3) pe_int (fun _ _ => rfl)) pa_nil)) pa_nil))) pe_int (nomark _))))) (pss_one (ps_ret pe_bl)) pss_nil) (pss_one (ps_ret (pe_and (pe_cmpR (kop_eqD (K := K) hr.units) (pe_f c__law_powered hr (by decide) rfl (pa_cons (pe_ix (kix_tup (K := K)) (pv 3) pe_int (fun _ _ => rfl)) (pa_cons (pe_ix (kix_tup (K := K)) (pv 3) pe_int (fun _ _ => rfl)) pa_nil))) (pv 1) (nomark _)) (pe_one (pe_cmpR (kop_eqD (K := K) hr.units) (pe_f c__law_powered hr (by decide) rfl (pa_cons (pe_ix (kix_tup (K := K)) (pv 3) pe_int (fun _ _ => rfl)) (pa_cons (pe_ix (kix_tup (K := K)) (pv 3) pe_int (fun _ _ => rfl)) pa_nil))) (pv 2) (nomark _))))))))))), ?_⟩
    cases hv with
    | oth hv0 kt =>
      refine ⟨v, rfl, v, _, _, _, false, rfl, .ty _, hv0, kit_ty kt, false, rfl, ?_⟩
      exact k _ (Same.refl _)
    | @nil c hc =>
      refine ⟨.ref c, rfl, .ref c, _, _, _, true, rfl, .ty _, tyx_tup hc, kit_ty (by decide +kernel), true, rfl, ?_⟩
      refine iteF ⟨.ref c, rfl, c, _, rfl, .inr hc, by show 2 ≤ sizeLine; decide, fun z hz => ⟨z, _, rfl, .inr (tup_of upd_same), rfl, rfl, _, rfl, ?_⟩⟩
      exact k _ (new_same hz)
    | @tup c s ys ds hc hi hdl hs =>
      refine ⟨.ref c, rfl, .ref c, _, _, _, true, rfl, .ty _, tyx_tup hc, kit_ty (by decide +kernel), true, rfl, ?_⟩
      refine iteF ⟨.ref c, rfl, c, _, rfl, .inr hc, by show 2 ≤ sizeLine; decide, fun z hz => ⟨z, _, rfl, .inr (tup_of upd_same), rfl, rfl, _, rfl, ?_⟩⟩
      have ez := new_same (o := .tup [.int 3, .int 4]) hz
      have hc := same_tup ez hc
      have hi := hi.same ez
      have h := same_tup ez h
      have g := same_tup ez g
      generalize upd H z (.tup [.int 3, .int 4]) = H1 at ez hc hi h g
      have hin : inV (V.int (((V.str s :: ys).length : Nat) : Int)) [V.int 3, V.int 4] = (decide (ys.length = 2) || decide (ys.length = 3)) := by
        show (((3 : Int) == (((V.str s :: ys).length : Nat) : Int)) || (((4 : Int) == (((V.str s :: ys).length : Nat) : Int)) || false)) = _
        rw [Bool.or_false, List.length_cons]
        congr 1
        · rw [Bool.eq_iff_iff, beq_iff_eq, decide_eq_true_iff]; omega
        · rw [Bool.eq_iff_iff, beq_iff_eq, decide_eq_true_iff]; omega
      show if (!inV (V.int (((V.str s :: ys).length : Nat) : Int)) [V.int 3, V.int 4]) = true then _ else _
      rw [hin]
      by_cases hlen : ys.length = 2 ∨ ys.length = 3
      · rw [show (!(decide (ys.length = 2) || decide (ys.length = 3))) = false by rcases hlen with q | q <;> simp [q]]
        refine ⟨.ref c, rfl, c, _, 0, .str s, rfl, rfl, hc, atI_nat (j := 0) rfl, .str s, _, _, _, true, rfl, .ty _, .base (.str s), kit_ty (by decide +kernel), true, rfl, ?_⟩
        refine ⟨.ref c, rfl, c, _, 0, .str s, rfl, rfl, hc, atI_nat (j := 0) rfl, c_part (eq_str hs (by decide +kernel) ⟨_, rfl, ?_⟩)⟩
        refine ite2 (fun q1 => ?_) fun q1 => ?_
        · have q1 : s = "unlike" := of_decide_eq_true q1
          have ev : paperV n ns bs (some (s, ds)) = unlV ns bs ds := by
            show (if s = "root" then _ else if s = "unlike" then _ else _) = _
            rw [if_neg (by rw [q1]; decide), if_pos q1]
          rw [ev] at k
          refine ⟨.ref a, rfl, .ref b, rfl, cat_ints h g (by omega) fun H2 p2 e2 h2 => ⟨p2, _, rfl, .inr h2, by rw [List.length_append]; omega, fun H3 p3 e3 h3 => ?_⟩⟩
          have e13 := Same.trans e2 e3
          refine ⟨.ref b, rfl, .ref a, rfl, cat_ints (same_tup e13 g) (same_tup e13 h) (by omega) fun H4 p4 e4 h4 => ⟨p4, _, rfl, .inr h4, by rw [List.length_append]; omega, fun H5 p5 e5 h5 => ⟨by show 2 ≤ sizeLine; decide, fun t ht => ?_⟩⟩⟩
          have e35 := Same.trans e4 e5
          have et := new_same (o := .tup [.ref p3, .ref p5]) ht
          have h3 := same_tup (Same.trans e35 et) h3
          have h5 := same_tup et h5
          have t6 : SqT K (upd H5 t (.tup [.ref p3, .ref p5])) t [.ref p3, .ref p5] := tup_of upd_same
          have e16 := Same.trans (Same.trans e13 e35) et
          generalize upd H5 t (.tup [.ref p3, .ref p5]) = H6 at h3 h5 t6 e16
          have hc := same_tup e16 hc
          have hi := hi.same e16
          refine ⟨.ref c, rfl, 1, rfl, nopart (sl_vals hc fun H7 p7 e7 h7 => ?_)⟩
          rw [show (some (1 : Int)) = some ((1 : Nat) : Int) from rfl, cutV_from] at h7
          have h7 : SqT K H7 p7 ys := h7
          refine ⟨.ref t, rfl, .tuple (ds.map Di.data), dueD _ _, .tup h7 (hi.same e7).dp, .tup (same_tup e7 t6) (.cons (dp_tup (same_tup e7 h3)) (.cons (dp_tup (same_tup e7 h5)) .nil)), shaped_datas ds, shaped_due _ _, _, rfl, ?_⟩
          rw [eqv_due]
          have k := k _ (Same.trans (Same.trans ez e16) e7)
          rw [unlV_eq] at k
          refine ite2 (fun q2 => ?_) fun q2 => ?_
          · rw [q2, Bool.true_and] at k
            exact ⟨.ref t, rfl, t, _, 0, _, rfl, rfl, same_tup e7 t6, atI_nat (j := 0) rfl, .ref t, rfl, t, _, 1, _, rfl, rfl, same_tup e7 t6, atI_nat (j := 1) rfl, ne_tup (same_tup e7 h3) (same_tup e7 h5) k⟩
          · rw [Bool.eq_false_iff.mpr q2, Bool.false_and] at k
            exact k
        · have q1 : ¬ s = "unlike" := fun q => q1 (decide_eq_true q)
          refine ⟨.ref c, rfl, c, _, 0, .str s, rfl, rfl, hc, atI_nat (j := 0) rfl, c_part (ne_str hs (by decide +kernel) ⟨_, rfl, ?_⟩)⟩
          refine ite2 (fun q2 => ?_) fun q2 => ?_
          · have q2 : ¬ s = "root" := by simpa using q2
            have ev : paperV n ns bs (some (s, ds)) = false := by
              show (if s = "root" then _ else if s = "unlike" then _ else _) = _
              rw [if_neg q2, if_neg q1]
            have := k _ ez
            rw [ev] at this
            exact this
          · have q2 : s = "root" := by simpa using q2
            have ev : paperV n ns bs (some (s, ds)) = rootV n ns bs ds := by
              show (if s = "root" then _ else _) = _
              rw [if_pos q2]
            rw [ev] at k
            refine ⟨.ref c, rfl, c, _, rfl, .inr hc, rfl, _, rfl, ?_⟩
            by_cases h3 : ys.length = 3
            · have hn : (!decide (V.int (((V.str s :: ys).length : Nat) : Int) = V.int 4)) = false := by
                rw [Bool.not_eq_false', decide_eq_true_iff]
                simp only [List.length_cons]
                rw [h3]
                rfl
              rw [hn]
              obtain ⟨y1, y2, y3, d1, d2, d3, rfl, rfl, i1, i2, i3⟩ := three_its hi h3
              refine ⟨.int n, rfl, .ref c, rfl, c, _, 1, y1, rfl, rfl, hc, atI_nat (j := 1) rfl, n, y1, d1.va, rfl, i1.va, fun H2 e2 => ⟨_, rfl, ?_⟩⟩
              have e02 := Same.trans ez e2
              show if (!bareV n 200 d1.va) = true then _ else _
              refine ite2 (fun q3 => ?_) fun q3 => ?_
              · have := k _ e02
                have e : rootV n ns bs [d1, d2, d3] = false := by
                  cases d1 with
                  | row r =>
                    cases d2 <;> cases d3 <;> first | rfl | skip
                    have q3 : (!bareB n 200 (r.map some)) = true := q3
                    rw [Bool.not_eq_true'] at q3
                    show (bareB n 200 (r.map some) && _) = false
                    rw [q3, Bool.false_and]
                  | _ => rfl
                rw [e] at this
                exact this
              · have q3 : bareV n 200 d1.va = true := by
                  cases z : bareV n 200 d1.va with
                  | true => rfl
                  | false => rw [z] at q3; exact absurd rfl q3
                have hc := same_tup e2 hc
                refine ⟨.ref c, rfl, 2, rfl, nopart (sl_vals hc fun H3 p3 e3 h3 => ?_)⟩
                rw [show (some (2 : Int)) = some ((2 : Nat) : Int) from rfl, cutV_from] at h3
                have h3 : SqT K H3 p3 [y2, y3] := h3
                have hi2 : Its K H3 [y2, y3] [d2, d3] := (Its.cons i2 (.cons i3 .nil)).same (Same.trans e2 e3)
                refine ⟨p3, rfl, ⟨_, h3⟩, fun D hD => lc_tup (K := K) (a := p3) (xs := [y2, y3]) (fun i H' => Same H3 H' ∧ H' D = some (.lst (((([d2, d3].take i).map ons2).flatten).map V.int))) ⟨new_same hD, upd_same⟩ (fun i H' _ q => same_tup q.1 h3) (fun i x H' hx q => ?_) fun H' q => ?_⟩
                · obtain ⟨d, hd, it⟩ := its_at hi2 i x hx
                  have it := it.same q.1
                  have e1 : (([d2, d3].take (i + 1)).map ons2).flatten = (([d2, d3].take i).map ons2).flatten ++ ons2 d := by
                    rw [List.take_succ, hd, List.map_append, List.flatten_append]
                    show _ ++ (ons2 d ++ []) = _
                    rw [List.append_nil]
                  have len : ((([d2, d3].take i).map ons2).flatten).length ≤ 2 := by
                    have o : ∀ d, (ons2 d).length ≤ 1 := fun d => by unfold ons2; split <;> simp
                    have o2 := o d2
                    have o3 := o d3
                    match i with
                    | 0 => exact Nat.zero_le _
                    | 1 => show (ons2 d2 ++ []).length ≤ 2; rw [List.append_nil]; omega
                    | i + 2 => show (ons2 d2 ++ (ons2 d3 ++ ((([] : List Di).take i).map ons2).flatten)).length ≤ 2; simp; omega
                  have yes : d.en = none → ∃ acc, H' D = some (.lst acc) ∧ acc.length < sizeLine ∧ (Same H3 (upd H' D (.lst (acc ++ [V.int 1]))) ∧ upd H' D (.lst (acc ++ [V.int 1])) D = some (.lst (((([d2, d3].take (i + 1)).map ons2).flatten).map V.int))) := fun z => by
                    refine ⟨_, q.2, small1000 (by rw [List.length_map]; omega), same_mut q.1 hD, ?_⟩
                    have : ons2 d = [1] := by unfold ons2; rw [z]; rfl
                    rw [upd_same, e1, this, List.map_append]
                    rfl
                  have no : ∀ u, d.en = some u → (Same H3 H' ∧ H' D = some (.lst (((([d2, d3].take (i + 1)).map ons2).flatten).map V.int))) := fun u z => ⟨q.1, by
                    have : ons2 d = [] := by unfold ons2; rw [z]; rfl
                    rw [e1, this, List.append_nil]
                    exact q.2⟩
                  have en := it.en
                  refine ⟨rfl, ?_⟩
                  cases hen : d.en with
                  | some u =>
                    rw [hen] at en
                    cases en with
                    | int =>
                      refine ⟨_, rfl, .int u, _, _, _, false, rfl, .ty _, .base (.int u), kit_ty (by decide +kernel), false, rfl, ?_⟩
                      refine iteF ⟨_, rfl, .int u, _, _, _, true, rfl, .ty _, .base (.int u), kit_ty (by decide +kernel), true, rfl, ?_⟩
                      exact no u hen
                  | none =>
                    rw [hen] at en
                    cases en with
                    | oth h0 k1 k2 k3 =>
                      rename_i tt ib bb
                      refine ⟨x, rfl, x, _, _, _, bb, rfl, .ty _, h0, kit_ty k2, bb, rfl, ?_⟩
                      cases bb with
                      | true => exact iteT (yes hen)
                      | false =>
                        refine iteF ⟨x, rfl, x, _, _, _, ib, rfl, .ty _, h0, kit_ty k1, ib, rfl, ?_⟩
                        have : ib = false := by cases ib with
                          | false => rfl
                          | true => cases k3
                        subst this
                        exact iteT (yes hen)
                · have d4 : H' D = some (.lst ((ons2 d2 ++ ons2 d3).map V.int)) := by
                    rw [q.2]
                    show some (HO.lst ((ons2 d2 ++ (ons2 d3 ++ [])).map V.int)) = _
                    rw [List.append_nil]
                  refine ⟨Nat.zero_le _, fun z hz => ?_⟩
                  have nz : D ≠ z := fun y => by rw [← y, d4] at hz; cases hz
                  have dz : upd H' z (.lst []) D = some (.lst ((ons2 d2 ++ ons2 d3).map V.int)) := by rw [upd_ne nz]; exact d4
                  have e4 := Same.trans (Same.trans e3 q.1) (new_same (o := .lst []) hz)
                  have ez2 : upd H' z (.lst []) z = some (.lst (([] : List Int).map V.int)) := upd_same
                  generalize upd H' z (.lst []) = H4 at dz e4 ez2
                  refine ne_list (lst_of dz) (lst_of ez2) ⟨_, rfl, ite2 (fun g1 => ?_) fun g1 => ?_⟩
                  · have := k _ (Same.trans e02 e4)
                    have e : rootV n ns bs [d1, d2, d3] = false := by
                      cases d2 with
                      | int x2 =>
                        cases d3 with
                        | int x3 => simp [ons2, Di.en] at g1
                        | _ => cases d1 <;> rfl
                      | _ => cases d1 <;> rfl
                    rw [e] at this
                    exact this
                  · have g1 : ons2 d2 ++ ons2 d3 = [] := by simpa using g1
                    have hc := same_tup e4 hc
                    have h := same_tup (Same.trans e2 e4) h
                    have g := same_tup (Same.trans e2 e4) g
                    have k : ∀ H', Same H4 H' → _ := fun H' e => k H' (Same.trans (Same.trans e02 e4) e)
                    have i1 := i1.same (Same.trans e2 e4)
                    cases i1 with
                    | @row r rs hr1 hr2 =>
                      cases i2 with
                      | int x2 hx2 =>
                        cases i3 with
                        | int x3 hx3 =>
                          have ev : rootV n ns bs [.row rs, .int x2, .int x3] = (decide (Fr.red (Fr.pw rs x2) = ns) && decide (Fr.red (Fr.pw rs x3) = bs)) := by
                            show (bareB n 200 (rs.map some) && _) = _
                            rw [show bareB n 200 (rs.map some) = true from q3, Bool.true_and]
                          rw [ev] at k
                          dsimp only
                          unfold tNext
                          dsimp only
                          refine ifs_join (fun x H' => x = false ∧ Same H4 H') (fun Q' q' => ?_) fun x H5 hx => ?_
                          · refine ⟨.ref c, rfl, c, _, 1, _, rfl, rfl, hc, atI_nat (j := 1) rfl, Nat.zero_le _, fun z hz => ne_tup (ms := []) (same_tup (new_same hz) hr1) (tup_of upd_same) ⟨_, rfl, ?_⟩⟩
                            have e5 := new_same (o := .tup []) hz
                            refine ite2 (fun q4 => ?_) fun q4 => q' _ _ ⟨rfl, e5⟩
                            refine ⟨.ref c, rfl, c, _, 2, _, rfl, rfl, same_tup e5 hc, atI_nat (j := 2) rfl, x2, rfl, .ref c, rfl, c, _, 3, _, rfl, rfl, same_tup e5 hc, atI_nat (j := 3) rfl, x3, rfl, _, _, rfl, _, _, rfl, rfl, _, rfl, ?_⟩
                            exact q' _ _ ⟨decide_eq_false (by split <;> split <;> split <;> omega), e5⟩
                          · obtain ⟨rfl, e5⟩ := hx
                            rw [if_neg Bool.false_ne_true]
                            have hc := same_tup e5 hc
                            refine ⟨.ref c, rfl, c, _, 1, _, rfl, rfl, hc, atI_nat (j := 1) rfl, .ref c, rfl, c, _, 2, _, rfl, rfl, hc, atI_nat (j := 2) rfl, r, rs, x2, rfl, same_tup e5 hr1, by omega, by omega, by omega, fun H6 p6 e6 h6 => ⟨.ref a, rfl, eq_tup h6 (same_tup (Same.trans e5 e6) h) ⟨_, rfl, ?_⟩⟩⟩
                            have e56 := Same.trans e5 e6
                            cases q5 : decide (Fr.red (Fr.pw rs x2) = ns) with
                            | false =>
                              have := k _ e56
                              rw [q5, Bool.false_and] at this
                              exact this
                            | true =>
                              rw [q5, Bool.true_and] at k
                              have hc := same_tup e6 hc
                              refine ⟨.ref c, rfl, c, _, 1, _, rfl, rfl, hc, atI_nat (j := 1) rfl, .ref c, rfl, c, _, 3, _, rfl, rfl, hc, atI_nat (j := 3) rfl, r, rs, x3, rfl, same_tup e56 hr1, by omega, by omega, by omega, fun H7 p7 e7 h7 => ⟨.ref b, rfl, eq_tup h7 (same_tup (Same.trans e56 e7) g) (k _ (Same.trans e56 e7))⟩⟩
                        | _ => simp [ons2, Di.en] at g1
                      | _ => simp [ons2, Di.en] at g1
                    | _ => cases q3
            · have e := rootV_len (n := n) (ns := ns) (bs := bs) (show ds.length ≠ 3 by rw [← hi.len]; exact h3)
              have hne : (!decide (V.int (((V.str s :: ys).length : Nat) : Int) = V.int 4)) = true := by
                rw [Bool.not_eq_true', decide_eq_false_iff_not]
                intro q
                have := V.int.inj q
                simp only [List.length_cons] at this
                omega
              rw [hne]
              have := k _ ez
              rw [e] at this
              exact this
      · rw [show (!(decide (ys.length = 2) || decide (ys.length = 3))) = true by
          rw [decide_eq_false (fun q => hlen (.inl q)), decide_eq_false (fun q => hlen (.inr q))]
          rfl]
        have ev : paperV n ns bs (some (s, ds)) = false := by
          show (if s = "root" then _ else if s = "unlike" then _ else _) = _
          rw [rootV_len (by rw [← hi.len]; exact fun q => hlen (.inr q)), unlV_len (by rw [← hi.len]; exact fun q => hlen (.inl q))]
          split
          · rfl
          · split <;> rfl
        have := k _ ez
        rw [ev] at this
        exact this
theorem cl__law_is_due (T : Txt K mg) : Cl P w K mg base 3 "_law_is_due" (spIsDue K) := by
  obtain ⟨f, fd, F, hm, hb⟩ := T.f__law_is_due
  exact cl_of (ok__law_is_due F T) hm F.kp hb
theorem tup_mut {H : Hp} {D a : Addr} {ys xs : List V} {o : HO} (d : H D = some (.lst ys)) (h : SqT K H a xs) : SqT K (upd H D o) a xs := by
  have ne : ∀ {u : HO}, H a = some u → (∀ ys, u ≠ .lst ys) → upd H D o a = some u := fun h hn => by
    rw [upd_ne (fun q => by rw [q, d] at h; cases h; exact hn _ rfl)]
    exact h
  rcases h with (h | ⟨u, h⟩) | h
  · exact .inl (.inl (ne h fun _ q => nomatch q))
  · exact .inl (.inr ⟨u, ne h fun _ q => nomatch q⟩)
  · exact .inr h
def IsP (K : PySem.W.Frag) : V → Hp → Prop := fun v H => ∃ o, Pv K H v o
section
variable {σ : L2.St} {H H1 : Hp}
theorem isp_same {v : V} (e : Same H H1) (h : IsP K v H) : IsP K v H1 := h.elim fun o q => ⟨o, q.same e⟩
theorem asg_list2 {D : Ends} {ta : TA} {n i : Nat} {P : V → Hp → Prop} (h : EvA ta σ H n P) (hz : n ≤ 1000)
    (k : ∀ p vs H2, Same H H2 → H2 p = none → vs.length = n → (∀ v ∈ vs, P v H2) → D.nx (σ.set i (some (.ref p))) (upd H2 p (.lst vs))) : tAsg (tLst ta) (gName i) D σ H :=
  h H (Same.refl _) _ fun vs H1 e hn hv => ⟨Nat.le_of_lt (small1000 (by omega)), fun p hp => k p vs _ e hp hn hv⟩
theorem cat_list2 {ta : TA} {n j : Nat} {l : Addr} {xs : List V} {P : V → Hp → Prop} {Q : VK} (pp : ∀ v H H1, Same H H1 → P v H → P v H1) (h : EvA ta σ H n P) (hj : σ[j]? = some (some (.ref l))) (hl : H l = some (.lst xs)) (hx : ∀ v ∈ xs, P v H) (hz : xs.length + n ≤ 1000)
    (k : ∀ p vs H2, Same H H2 → H2 p = none → vs.length = xs.length + n → (∀ v ∈ vs, P v H2) → Q (.ref p) (upd H2 p (.lst vs))) : tOp rCat (tVar j) (tLst ta) σ H Q :=
  ⟨.ref l, hj, h H (Same.refl _) _ fun vs H1 e hn hv => ⟨Nat.le_of_lt (small1000 (by omega)), fun b hb => by
    have hlb : l ≠ b := fun q => by
      have z := e _ _ hl
      rw [q, hb] at z
      cases z
    refine ⟨l, b, xs, vs, rfl, rfl, by rw [upd_ne hlb]; exact e _ _ hl, upd_same, Nat.le_of_lt (small1000 (by omega)), fun p hp => ?_⟩
    have e2 := new_same (o := .lst vs) hb
    refine k p (xs ++ vs) _ (Same.trans e e2) hp (by rw [List.length_append, hn]) fun v hv' => ?_
    rcases List.mem_append.mp hv' with q | q
    · exact pp _ _ _ (Same.trans e e2) (hx v q)
    · exact pp _ _ _ e2 (hv v q)⟩⟩
abbrev EvT (K : PySem.W.Frag) (te : TE) (σ : L2.St) (H : Hp) (s : Str) (ds : List Di) : Prop := EvS te σ H fun v H => ∃ a ys, v = .ref a ∧ SqT K H a (.str s :: ys) ∧ Its K H ys ds
abbrev EvU (K : PySem.W.Frag) (te : TE) (σ : L2.St) (H : Hp) (ds : List Di) : Prop := EvS te σ H fun v H => ∃ a ys, v = .ref a ∧ SqT K H a ys ∧ Its K H ys ds
def EvI (K : PySem.W.Frag) (ta : TA) (σ : L2.St) (H : Hp) (ds : List Di) : Prop := ∀ H1, Same H H1 → ∀ Q : List V → Hp → Prop, (∀ vs H2, Same H1 H2 → Its K H2 vs ds → Q vs H2) → ta σ H1 Q
theorem ei0 : EvI K tNil σ H [] := fun H1 e Q q => q [] H1 (Same.refl _) .nil
theorem eic {te : TE} {ta : TA} {d : Di} {ds : List Di} (h : EvS te σ H fun v H => It K H v d) (h2 : EvI K ta σ H ds) : EvI K (tCons te ta) σ H (d :: ds) := fun H1 e Q q =>
  h H1 e _ fun v H2 e2 hv => h2 H2 (Same.trans e e2) _ fun vs H3 e3 hvs => q _ _ (Same.trans e2 e3) (.cons (hv.same e3) hvs)
theorem t_disp {s : Str} {ta : TA} {ds : List Di} (h : EvI K ta σ H ds) (hl : ds.length ≤ 10) : EvT K (tTup (tCons (tC (.str s)) ta)) σ H s ds := fun H1 e Q q =>
  h H1 e _ fun vs H2 e2 hvs => ⟨Nat.le_of_lt (small1000 (by show vs.length + 1 ≤ 1000; rw [hvs.len]; omega)), fun p hp => q _ _ (Same.trans e2 (new_same hp)) ⟨p, vs, rfl, tup_of upd_same, hvs.same (new_same hp)⟩⟩
theorem u_disp {ta : TA} {ds : List Di} (h : EvI K ta σ H ds) (hl : ds.length ≤ 10) : EvU K (tTup ta) σ H ds := fun H1 e Q q =>
  h H1 e _ fun vs H2 e2 hvs => ⟨Nat.le_of_lt (small1000 (by rw [hvs.len]; omega)), fun p hp => q _ _ (Same.trans e2 (new_same hp)) ⟨p, vs, rfl, tup_of upd_same, hvs.same (new_same hp)⟩⟩
theorem its_app : ∀ {vs us : List V} {ds es : List Di}, Its K H vs ds → Its K H us es → Its K H (vs ++ us) (ds ++ es)
  | _, _, _, _, .nil, g => g
  | _, _, _, _, .cons h t, g => .cons h (its_app t g)
theorem t_cat {s : Str} {ta tb : TE} {ds es : List Di} (h1 : EvT K ta σ H s ds) (h2 : EvU K tb σ H es) (hz : ds.length + es.length ≤ 100) : EvT K (tOp (rCatA K) ta tb) σ H s (ds ++ es) := fun H1 e Q q =>
  h1 H1 e _ fun v H2 e2 ⟨a, ys, ev, ha, hi⟩ => h2 H2 (Same.trans e e2) _ fun v2 H3 e3 ⟨b, zs, ev2, hb, hi2⟩ => by
    subst ev ev2
    have l1 := hi.len
    have l2 := hi2.len
    have ha := same_tup e3 ha
    have hi := hi.same e3
    refine ⟨a, b, _, zs, rfl, rfl, ha, hb, Nat.le_trans (by simp only [List.length_cons]; omega : _ ≤ 1000) (Nat.le_of_lt (small1000 (by decide))), (fun ex => nomatch ex), fun _ ey => q _ _ (Same.trans e2 e3) ⟨a, ys, rfl, ha, ?_⟩, fun _ _ p hp => q _ _ (Same.trans (Same.trans e2 e3) (new_same hp)) ⟨p, ys ++ zs, rfl, tup_of upd_same, (its_app hi hi2).same (new_same hp)⟩⟩
    subst ey
    have : es = [] := List.eq_nil_of_length_eq_zero (by rw [← l2]; rfl)
    subst this
    rw [List.append_nil]
    exact hi
theorem pv_t {s : Str} {te : TE} {ds : List Di} (h : EvT K te σ H s ds) (hs : (PyData.str s).canLay0 = true) (hl : ds.length ≤ 10) : EvS te σ H (IsP K) := evs_of h fun v H ⟨a, ys, ev, ha, hi⟩ => by
  subst ev
  exact ⟨some (s, ds), .tup ha hi hl hs⟩
theorem its_drop : ∀ {vs : List V} {ds : List Di} (k : Nat), Its K H vs ds → Its K H (vs.drop k) (ds.drop k)
  | _, _, 0, h => h
  | _, _, k + 1, .nil => .nil
  | _, _, k + 1, .cons _ t => its_drop k t
theorem its_take : ∀ {vs : List V} {ds : List Di} (k : Nat), Its K H vs ds → Its K H (vs.take k) (ds.take k)
  | _, _, 0, h => .nil
  | _, _, k + 1, .nil => .nil
  | _, _, k + 1, .cons h t => .cons h (its_take k t)
theorem cutV_last (x : V) (ys : List V) (hy : ys ≠ []) : cutV (x :: ys) none (some (-1)) = x :: ys.take (ys.length - 1) := by
  have hp := List.length_pos_iff.mpr hy
  unfold cutV
  have e2 : HT.sIx (x :: ys).length (x :: ys).length (some (-1)) = ys.length := by
    show (if (-1 : Int) < 0 then ((-1 : Int) + (((x :: ys).length : Nat) : Int)).toNat else min (-1 : Int).toNat (x :: ys).length) = _
    rw [if_pos (by decide)]
    simp only [List.length_cons]
    omega
  rw [HT.sIx_none, e2, List.drop_zero, Nat.sub_zero]
  obtain ⟨m, hm⟩ : ∃ m, ys.length = m + 1 := ⟨ys.length - 1, by omega⟩
  rw [hm]
  rfl
end
def Di.plain : Di → Prop
  | .lst _ => False
  | _ => True
theorem it_mut {H : Hp} {D : Addr} {xs : List V} {o : HO} {v : V} {d : Di} (hd : H D = some (.lst xs)) (h : It K H v d) (hp : d.plain) : It K (upd H D o) v d := by
  cases h with
  | row h hl => exact .row (tup_mut hd h) hl
  | int i h => exact .int i h
  | non => exact .non
  | bl b => exact .bl b
  | lst h => exact hp.elim
theorem its_mut {H : Hp} {D : Addr} {xs : List V} {o : HO} (hd : H D = some (.lst xs)) : ∀ {vs : List V} {ds : List Di}, Its K H vs ds → (∀ d, d ∈ ds → d.plain) → Its K (upd H D o) vs ds
  | _, _, .nil, _ => .nil
  | _, _, .cons h t, hp => .cons (it_mut hd h (hp _ List.mem_cons_self)) (its_mut hd t fun d q => hp d (List.mem_cons_of_mem _ q))
def spNear (K : PySem.W.Frag) : Sp := fun vs H Q _ => ∃ (a b t : Addr) (ns bs : List Int) (s : Str) (ys : List V) (ds : List Di), vs = [.ref a, .ref b, .ref t] ∧ SqT K H a (ns.map V.int) ∧ ns.length ≤ 50 ∧ SqT K H b (bs.map V.int) ∧ bs.length ≤ 50 ∧
  SqT K H t (.str s :: ys) ∧ Its K H ys ds ∧ ds ≠ [] ∧ ds.length ≤ 3 ∧ (∀ d, d ∈ ds → d.plain) ∧ (PyData.str s).canLay0 = true ∧ (s = "root" → ∃ p r e1 e2, ys = [.ref p, .int e1, .int e2] ∧ ds = [.row r, .int e1, .int e2]) ∧
  ∀ H' p xs, Same H H' → H' p = some (.lst xs) → (∀ x ∈ xs, IsP K x H') → Q (.ref p) H'
theorem ok__law_near {f : Addr} {fd : FuncData} (F : Fun K "_law_near" "_law_near" st__law_near f fd) (T : Txt K mg) : FnOk P w K mg base CX0 2 f fd ["one", "other", "told"] (spNear K) := by
  have c__law_bare : Cl P w K mg base 1 "_law_bare" (spLBare K) := cl__law_bare T
  have c__law_back : Cl P w K mg base 1 "_law_back" (spOpp K) := cl__law_back T
  refine F.ok sc__law_near (fun vs H Q E h => ?_) (fun cdv A outer s H vs Q E hr h => ?_)
  · obtain ⟨a, b, t, ns, bs, s, ys, ds, rfl, _⟩ := h
    rfl
  · obtain ⟨a, b, t, ns, bs, s, ys, ds, rfl, ha, hl, hb, bl, ht, hi, dn, dl, dp, hs, hroot, k⟩ := h
    refine ⟨_, (pss_cons (ps_set (i := 3) sc__law_near.nd rfl (Or.inl rfl) (pe_tup (pa_cons (pe_f c__law_bare hr (by decide) rfl (pa_cons (pe_op (kop_catA (K := K)) (pv 0) (pv 1)) pa_nil)) (pa_cons (pe_f c__law_bare hr (by decide) rfl (pa_cons (pe_op (kop_catA (K := K)) (pv 1) (pv 0)) pa_nil)) pa_nil)))) (pss_cons (ps_set (i := 4) sc__law_near.nd rfl (Or.inl rfl) (pe_lst (pa_cons (pv 2) (pa_cons (pe_callTy (kcall_list (K := K)) (by rfl) T.n_list bo_list (pa_cons (pv 2) pa_nil)) (pa_cons (pe_slice (ksl_tupA (K := K)) (pv 2) po_none (po_some (pe_un un_neg pe_int))) (pa_cons (pe_op (kop_catA (K := K)) (pv 2) (pe_tup (pa_cons pe_int pa_nil))) (pa_cons pe_non (pa_cons pe_int (pa_cons (pe_tup pa_nil) (pa_cons (pe_op (kop_catA (K := K)) (pe_tup (pa_cons pe_str pa_nil)) (pv 3)) (pa_cons (pe_op (kop_catA (K := K)) (pe_tup (pa_cons pe_str pa_nil)) (kpe_revT (K := K) (pv 3))) pa_nil))))))))))) (pss_cons (ps_set (i := 4) sc__law_near.nd rfl (Or.inl rfl) (pe_op op_cat (pv 4) (pe_lst (pa_cons (pe_tup (pa_cons pe_str (pa_cons (pv 0) (pa_cons (pv 1) pa_nil)))) (pa_cons (pe_tup (pa_cons pe_str (pa_cons (pe_tup (pa_cons pe_int pa_nil)) (pa_cons pe_int (pa_cons pe_int pa_nil))))) (pa_cons (pe_tup (pa_cons pe_str (pa_cons (pe_tup pa_nil) (pa_cons pe_int (pa_cons pe_int pa_nil))))) (pa_cons (pe_tup (pa_cons pe_str (pa_cons (pv 0) (pa_cons pe_int (pa_cons pe_int pa_nil))))) pa_nil))))))) (pss_cons (ps_expr (pe_bm PySem.F.plainAttrs_list PySem.F.slot_list_append PySem.F.type_list_append mt_append (pv 4) (pa_cons (pe_op (kop_catA (K := K)) (pe_tup (pa_cons pe_str pa_nil)) (pe_slice (ksl_tupA (K := K)) (pv 2) (po_some pe_int) po_none)) pa_nil))) (pss_cons (ps_if (pt_cmpR (kop_eqD (K := K) hr.units) (pe_ix (kix_tup (K := K)) (pv 2) pe_int (fun _ _ => rfl)) pe_str (nomark _)) (pss_cons (ps_set (i := 4) sc__law_near.nd rfl (Or.inl rfl) (pe_op op_cat (pv 4) (pe_lst (pa_cons (pe_tup (pa_cons pe_str (pa_cons (pe_f c__law_back hr (by decide) rfl (pa_cons (pe_ix (kix_tup (K := K)) (pv 2) pe_int (fun _ _ => rfl)) pa_nil)) (pa_cons (pe_op op_sub pe_int (pe_ix (kix_tup (K := K)) (pv 2) pe_int (fun _ _ => rfl))) (pa_cons (pe_op op_sub pe_int (pe_ix (kix_tup (K := K)) (pv 2) pe_int (fun _ _ => rfl))) pa_nil))))) (pa_cons (pe_tup (pa_cons pe_str (pa_cons (pe_ix (kix_tup (K := K)) (pv 2) pe_int (fun _ _ => rfl)) (pa_cons (pe_ix (kix_tup (K := K)) (pv 2) pe_int (fun _ _ => rfl)) (pa_cons (pe_ix (kix_tup (K := K)) (pv 2) pe_int (fun _ _ => rfl)) pa_nil))))) pa_nil))))) (pss_cons (ps_set (i := 4) sc__law_near.nd rfl (Or.inl rfl) (pe_op op_cat (pv 4) (pe_lst (pa_cons (pe_tup (pa_cons pe_str (pa_cons (pe_ix (kix_tup (K := K)) (pv 2) pe_int (fun _ _ => rfl)) (pa_cons (pe_ix (kix_tup (K := K)) (pv 2) pe_int (fun _ _ => rfl)) (pa_cons pe_non pa_nil))))) (pa_cons (pe_tup (pa_cons pe_str (pa_cons (pe_ix (kix_tup (K := K)) (pv 2) pe_int (fun _ _ => rfl)) (pa_cons pe_bl (pa_cons (pe_ix (kix_tup (K := K)) (pv 2) pe_int (fun _ _ => rfl)) pa_nil))))) pa_nil))))) (pss_one (ps_expr (pe_bm PySem.F.plainAttrs_list PySem.F.slot_list_append PySem.F.type_list_append mt_append (pv 4) (pa_cons (pe_op (kop_catA (K := K)) (pe_tup (pa_cons pe_str (pa_cons (pe_callTy (kcall_list (K := K)) (by rfl) T.n_list bo_list (pa_cons (pe_ix (kix_tup (K := K)) (pv 2) pe_int (fun _ _ => rfl)) pa_nil)) pa_nil))) (pe_slice (ksl_tupA (K := K)) (pv 2) (po_some pe_int) po_none)) pa_nil)))))) pss_nil) (pss_one (ps_ret (pv 4)))))))), ?_⟩
    refine ⟨.ref a, rfl, .ref b, rfl, cat_ints ha hb (by omega) fun H2 p2 e2 h2 => ⟨p2, _, rfl, .inr h2, by rw [List.length_append]; omega, fun H3 p3 e3 h3 => ?_⟩⟩
    have e13 := Same.trans e2 e3
    refine ⟨.ref b, rfl, .ref a, rfl, cat_ints (same_tup e13 hb) (same_tup e13 ha) (by omega) fun H4 p4 e4 h4 => ⟨p4, _, rfl, .inr h4, by rw [List.length_append]; omega, fun H5 p5 e5 h5 => ⟨by show 2 ≤ sizeLine; decide, fun tb htb => ?_⟩⟩⟩
    have e35 := Same.trans e4 e5
    have et := new_same (o := .tup [.ref p3, .ref p5]) htb
    have h3 := same_tup (Same.trans e35 et) h3
    have h5 := same_tup et h5
    have t6 : SqT K (upd H5 tb (.tup [.ref p3, .ref p5])) tb [.ref p3, .ref p5] := tup_of upd_same
    have e06 := Same.trans (Same.trans e13 e35) et
    generalize upd H5 tb (.tup [.ref p3, .ref p5]) = G at h3 h5 t6 e06
    have lf := len_red (ns ++ bs)
    have lg := len_red (bs ++ ns)
    rw [List.length_append] at lf lg
    have ha := same_tup e06 ha
    have hb := same_tup e06 hb
    have ht := same_tup e06 ht
    have hi := hi.same e06
    have r3 : It K G (.ref p3) (.row (Fr.red (ns ++ bs))) := .row h3 (by omega)
    have r5 : It K G (.ref p5) (.row (Fr.red (bs ++ ns))) := .row h5 (by omega)
    have ra : It K G (.ref a) (.row ns) := .row ha (by omega)
    have rb : It K G (.ref b) (.row bs) := .row hb (by omega)
    let sg : Option V → L2.St := fun x => [some (.ref a), some (.ref b), some (.ref t), some (.ref tb), x]
    have pp : ∀ v H H1, Same H H1 → IsP K v H → IsP K v H1 := fun v H H1 e q => isp_same e q
    have yn : ys ≠ [] := fun q => dn (List.eq_nil_of_length_eq_zero (by rw [← hi.len, q]; rfl))
    have vt : ∀ (x : Option V) (H2 : Hp), Same G H2 → EvT K (tVar 2) (sg x) H2 s ds := fun x H2 e => evs_var rfl fun H3 e3 => ⟨t, ys, rfl, same_tup (Same.trans e e3) ht, hi.same (Same.trans e e3)⟩
    have vb : ∀ (x : Option V) (H2 : Hp), Same G H2 → EvU K (tVar 3) (sg x) H2 [.row (Fr.red (ns ++ bs)), .row (Fr.red (bs ++ ns))] := fun x H2 e => evs_var rfl fun H3 e3 => ⟨tb, _, rfl, same_tup (Same.trans e e3) t6, (Its.cons r3 (.cons r5 .nil)).same (Same.trans e e3)⟩
    have vr : ∀ (x : Option V) (H2 : Hp), Same G H2 → EvU K (tRevT K (tVar 3)) (sg x) H2 [.row (Fr.red (bs ++ ns)), .row (Fr.red (ns ++ bs))] := fun x H2 e H3 e3 Q q => ⟨.ref tb, rfl, tb, _, rfl, same_tup (Same.trans e e3) t6, fun p hp => q _ _ (new_same hp) ⟨p, _, rfl, tup_of upd_same, (Its.cons r5 (.cons r3 .nil)).same (Same.trans (Same.trans e e3) (new_same hp))⟩⟩
    have v0 : ∀ (x : Option V) (H2 : Hp), Same G H2 → EvS (tVar 0) (sg x) H2 fun v H => It K H v (.row ns) := fun x H2 e => evs_var rfl fun H3 e3 => ra.same (Same.trans e e3)
    have v1 : ∀ (x : Option V) (H2 : Hp), Same G H2 → EvS (tVar 1) (sg x) H2 fun v H => It K H v (.row bs) := fun x H2 e => evs_var rfl fun H3 e3 => rb.same (Same.trans e e3)
    have ii : ∀ {σ : L2.St} {H : Hp} (i : Int), -50 ≤ i ∧ i ≤ 50 → EvS (tC (.int i)) σ H fun v H => It K H v (.int i) := fun i hi => evs_c fun _ _ => .int i hi
    have row1 : EvA _ (sg none) G 9 (IsP K) :=
      eva_cons pp (pv_t (vt none G (Same.refl _)) hs (by omega))
      (eva_cons pp (P := IsP K) (te := tCB (rListOf K) (tCons (tVar 2) tNil)) (fun H2 e Q q => ⟨.ref t, rfl, t, _, rfl, .inr (same_tup e ht), fun l hl => q _ _ (new_same hl) ⟨none, .oth (t := "list") (.base (.lst upd_same)) (by decide +kernel)⟩⟩)
      (eva_cons pp (P := IsP K) (te := tSl (rSlA K) (tVar 2) tNoPart (tPart (tUn (rU fun i => V.int (-i)) (tC (.int 1))))) (fun H2 e Q q => ⟨.ref t, rfl, nopart ⟨1, rfl, _, rfl, sl_vals (same_tup e ht) fun H3 p e3 hp => q _ _ e3 ⟨some (s, ds.take (ys.length - 1)), by
        have hp : SqT K H3 p (cutV (.str s :: ys) none (some (-1))) := hp
        rw [cutV_last _ _ yn] at hp
        exact .tup hp (its_take _ (hi.same (Same.trans e e3))) (by rw [List.length_take]; omega) hs⟩⟩⟩)
      (eva_cons pp (pv_t (t_cat (vt none G (Same.refl _)) (u_disp (eic (ii 0 (by decide)) ei0) (by decide)) (by simp; omega)) hs (by simp; omega))
      (eva_cons pp (evs_c fun _ _ => ⟨none, .oth (t := "NoneType") (.base .non) (by decide +kernel)⟩)
      (eva_cons pp (evs_c fun _ _ => ⟨none, .oth (t := "int") (.base (.int 0)) (by decide +kernel)⟩)
      (eva_cons pp (P := IsP K) (te := tTup tNil) (fun H2 e Q q => ⟨Nat.zero_le _, fun p hp => q _ _ (new_same hp) ⟨none, .nil (tup_of upd_same)⟩⟩)
      (eva_cons pp (pv_t (t_cat (t_disp (s := "unlike") ei0 (by decide)) (vb none G (Same.refl _)) (by simp)) (by decide +kernel) (by simp))
      (eva_cons pp (pv_t (t_cat (t_disp (s := "unlike") ei0 (by decide)) (vr none G (Same.refl _)) (by simp)) (by decide +kernel) (by simp)) eva_nil))))))))
    refine asg_list2 row1 (by decide) fun q1 vs1 G1 e1 f1 l1 i1 => ?_
    have e1' := Same.trans e1 (new_same (o := .lst vs1) f1)
    have d1 : upd G1 q1 (.lst vs1) q1 = some (.lst vs1) := upd_same
    have i1' : ∀ v ∈ vs1, IsP K v (upd G1 q1 (.lst vs1)) := fun v hv => isp_same (new_same f1) (i1 v hv)
    have row2 : EvA _ (sg (some (.ref q1))) (upd G1 q1 (.lst vs1)) 4 (IsP K) :=
      eva_cons pp (pv_t (t_disp (s := "unlike") (eic (v0 _ _ e1') (eic (v1 _ _ e1') ei0)) (by simp)) (by decide +kernel) (by simp))
      (eva_cons pp (pv_t (t_disp (s := "root") (eic (te := tTup (tCons (tC (.int 1)) tNil)) (d := .row [1]) (fun H2 e Q q => ⟨by show 1 ≤ sizeLine; decide, fun p hp => q _ _ (new_same hp) (.row (tup_of upd_same) (by decide))⟩) (eic (ii 0 (by decide)) (eic (ii 0 (by decide)) ei0))) (by simp)) (by decide +kernel) (by simp))
      (eva_cons pp (pv_t (t_disp (s := "root") (eic (te := tTup tNil) (d := .row []) (fun H2 e Q q => ⟨Nat.zero_le _, fun p hp => q _ _ (new_same hp) (.row (tup_of upd_same) (by decide))⟩) (eic (ii 1 (by decide)) (eic (ii 1 (by decide)) ei0))) (by simp)) (by decide +kernel) (by simp))
      (eva_cons pp (pv_t (t_disp (s := "root") (eic (v0 _ _ e1') (eic (ii 1 (by decide)) (eic (ii 1 (by decide)) ei0))) (by simp)) (by decide +kernel) (by simp)) eva_nil)))
    refine cat_list2 pp row2 rfl d1 i1' (by rw [l1]; decide) fun q2 vs2 G2 e2 f2 l2 i2 => ?_
    have e2' := Same.trans e1' e2
    have e2'' := Same.trans e2' (new_same (o := .lst vs2) f2)
    have d2 : upd G2 q2 (.lst vs2) q2 = some (.lst vs2) := upd_same
    have ut : ∀ (x : Option V) (H2 : Hp), Same G H2 → EvU K (tSl (rSlA K) (tVar 2) (tPart (tC (.int 1))) tNoPart) (sg x) H2 ds := fun x H2 e H3 e3 Q q => ⟨.ref t, rfl, 1, rfl, nopart (sl_vals (same_tup (Same.trans e e3) ht) fun H4 p e4 hp => q _ _ e4 ⟨p, ys, rfl, by
      rw [show (some (1 : Int)) = some ((1 : Nat) : Int) from rfl, cutV_from] at hp
      exact hp, hi.same (Same.trans (Same.trans e e3) e4)⟩)⟩
    refine ⟨.ref q2, rfl, .inl ⟨rfl, _, SqL.of d2⟩, ?_⟩
    refine t_cat (t_disp (s := "Root") ei0 (by simp)) (ut (some (.ref q2)) _ e2'') (by simp; omega) (upd G2 q2 (.lst vs2)) (Same.refl _) _ fun v H6 e6 hv => ?_
    obtain ⟨c, zs, rfl, hc, hz⟩ := hv
    rw [List.nil_append] at hz
    have d6 := e6 _ _ d2
    refine ⟨q2, vs2, .ref c, rfl, rfl, d6, small1000 (by rw [l2, l1]; decide), ?_⟩
    have s6 : Same G2 (upd H6 q2 (.lst (vs2 ++ [.ref c]))) := same_mut (Same.trans (new_same f2) e6) f2
    have e7 := Same.trans e2' s6
    have d7 : upd H6 q2 (.lst (vs2 ++ [.ref c])) q2 = some (.lst (vs2 ++ [.ref c])) := upd_same
    have i7 : ∀ v ∈ vs2 ++ [V.ref c], IsP K v (upd H6 q2 (.lst (vs2 ++ [.ref c]))) := fun v hv => by
      rcases List.mem_append.mp hv with q | q
      · exact isp_same s6 (i2 v q)
      · rw [List.mem_singleton.mp q]
        exact ⟨some ("Root", ds), .tup (tup_mut d6 hc) (its_mut d6 hz dp) (by omega) (by decide +kernel)⟩
    generalize hG7 : upd H6 q2 (.lst (vs2 ++ [.ref c])) = G7 at s6 e7 d7 i7
    have l7 : (vs2 ++ [V.ref c]).length = 14 := by rw [List.length_append, l2, l1]; rfl
    generalize vs2 ++ [V.ref c] = vs7 at d7 i7 l7
    refine ⟨.ref t, rfl, t, _, 0, .str s, rfl, rfl, same_tup e7 ht, atI_nat (j := 0) rfl, c_part (eq_str hs (by decide +kernel) ⟨_, rfl, ite2 (fun g => ?_) fun g => ?_⟩)⟩
    · have g : s = "root" := of_decide_eq_true g
      obtain ⟨p, r, x1, x2, rfl, rfl⟩ := hroot g
      obtain ⟨_, _, _, _, _, _, ey, ed, t1, t2, t3⟩ := three_its hi rfl
      injection ey with ey1 ey
      injection ey with ey2 ey
      injection ey with ey3 ey
      injection ed with ed1 ed
      injection ed with ed2 ed
      injection ed with ed3 ed
      subst ey1 ey2 ey3 ed1 ed2 ed3
      have hx1 : -50 ≤ x1 ∧ x1 ≤ 50 := by cases t2; assumption
      have hx2 : -50 ≤ x2 ∧ x2 ≤ 50 := by cases t3; assumption
      have hr1 : SqT K G p (r.map V.int) ∧ r.length ≤ 100 := by cases t1; exact ⟨by assumption, by assumption⟩
      have x1t : ∀ (x : Option V) (H2 : Hp), Same G H2 → EvS (tOp (rIxT K) (tVar 2) (tC (.int 1))) (sg x) H2 fun v H => It K H v (.row r) := fun x H2 e H3 e3 Q q => ⟨.ref t, rfl, t, _, 1, _, rfl, rfl, same_tup (Same.trans e e3) ht, atI_nat (j := 1) rfl, q _ _ (Same.refl _) (t1.same (Same.trans e e3))⟩
      have x2t : ∀ (x : Option V) (H2 : Hp), Same G H2 → EvS (tOp (rIxT K) (tVar 2) (tC (.int 2))) (sg x) H2 fun v H => v = .int x1 := fun x H2 e H3 e3 Q q => ⟨.ref t, rfl, t, _, 2, _, rfl, rfl, same_tup (Same.trans e e3) ht, atI_nat (j := 2) rfl, q _ _ (Same.refl _) rfl⟩
      have x3t : ∀ (x : Option V) (H2 : Hp), Same G H2 → EvS (tOp (rIxT K) (tVar 2) (tC (.int 3))) (sg x) H2 fun v H => v = .int x2 := fun x H2 e H3 e3 Q q => ⟨.ref t, rfl, t, _, 3, _, rfl, rfl, same_tup (Same.trans e e3) ht, atI_nat (j := 3) rfl, q _ _ (Same.refl _) rfl⟩
      have iv : ∀ {te : TE} {σ : L2.St} {H : Hp} {i : Int}, -50 ≤ i ∧ i ≤ 50 → EvS te σ H (fun v _ => v = .int i) → EvS te σ H fun v H => It K H v (.int i) := fun hi h => evs_of h fun v H ev => by subst ev; exact .int _ hi
      have sb : ∀ {te : TE} {σ : L2.St} {H : Hp} {i : Int}, -50 ≤ i ∧ i ≤ 50 → EvS te σ H (fun v _ => v = .int i) → EvS (tOp (rI0 fun i j => V.int (i - j)) (tC (.int 0)) te) σ H fun v H => It K H v (.int (0 - i)) := fun {te σ H i} hi h H1 e Q q => h H1 e _ fun v H2 e2 ev => ⟨0, i, rfl, ev, q _ _ e2 (.int _ (by omega))⟩
      have bk : ∀ (x : Option V) (H2 : Hp), Same G H2 → EvS (tFn (spOpp K) (tCons (tOp (rIxT K) (tVar 2) (tC (.int 1))) tNil)) (sg x) H2 fun v H => It K H v (.row (Fr.opp r)) := fun x H2 e H3 e3 Q q => ⟨.ref t, rfl, t, _, 1, _, rfl, rfl, same_tup (Same.trans e e3) ht, atI_nat (j := 1) rfl, p, r, rfl, same_tup (Same.trans e e3) hr1.1, by omega, fun H4 p4 e4 h4 => q _ _ e4 (.row h4 (by rw [Fr.opp_len]; exact hr1.2))⟩
      have row3 : EvA _ (sg (some (.ref q2))) G7 2 (IsP K) :=
        eva_cons pp (pv_t (t_disp (s := "root") (eic (bk _ _ e7) (eic (sb hx1 (x2t _ _ e7)) (eic (sb hx2 (x3t _ _ e7)) ei0))) (by simp)) (by decide +kernel) (by simp))
        (eva_cons pp (pv_t (t_disp (s := "root") (eic (x1t _ _ e7) (eic (iv hx2 (x3t _ _ e7)) (eic (iv hx1 (x2t _ _ e7)) ei0))) (by simp)) (by decide +kernel) (by simp)) eva_nil)
      refine cat_list2 pp row3 rfl d7 i7 (by rw [l7]; decide) fun q3 vs3 G8 e8 f8 l8 i8 => ?_
      have e8' := Same.trans (Same.trans e7 e8) (new_same (o := .lst vs3) f8)
      have d8 : upd G8 q3 (.lst vs3) q3 = some (.lst vs3) := upd_same
      have i8' : ∀ v ∈ vs3, IsP K v (upd G8 q3 (.lst vs3)) := fun v hv => isp_same (new_same f8) (i8 v hv)
      have row4 : EvA _ (sg (some (.ref q3))) (upd G8 q3 (.lst vs3)) 2 (IsP K) :=
        eva_cons pp (pv_t (t_disp (s := "root") (eic (x1t _ _ e8') (eic (iv hx1 (x2t _ _ e8')) (eic (d := .non) (evs_c fun _ _ => .non) ei0))) (by simp)) (by decide +kernel) (by simp))
        (eva_cons pp (pv_t (t_disp (s := "root") (eic (x1t _ _ e8') (eic (d := .bl true) (evs_c fun _ _ => .bl true) (eic (iv hx2 (x3t _ _ e8')) ei0))) (by simp)) (by decide +kernel) (by simp)) eva_nil)
      refine cat_list2 pp row4 rfl d8 i8' (by rw [l8, l7]; decide) fun q4 vs4 G9 e9 f9 l9 i9 => ?_
      have e9' := Same.trans (Same.trans e8' e9) (new_same (o := .lst vs4) f9)
      have d9 : upd G9 q4 (.lst vs4) q4 = some (.lst vs4) := upd_same
      generalize hGa : upd G9 q4 (.lst vs4) = Ga at e9' d9
      have sa : Same G9 Ga := hGa ▸ new_same f9
      refine ⟨.ref q4, rfl, .inl ⟨rfl, _, SqL.of d9⟩, ?_⟩
      refine ⟨.ref t, rfl, t, _, 1, _, rfl, rfl, same_tup e9' ht, atI_nat (j := 1) rfl, p, _, rfl, .inr (same_tup e9' hr1.1), fun l hl => ⟨by show 2 ≤ sizeLine; decide, fun u hu => ?_⟩⟩
      have el := new_same (o := .lst (r.map V.int)) hl
      have eu := new_same (o := .tup [.str "root", .ref l]) hu
      have elu := Same.trans el eu
      refine ⟨.ref t, rfl, 2, rfl, nopart (sl_vals (same_tup (Same.trans e9' elu) ht) fun H8 p8 e8 h8 => ?_)⟩
      rw [show (some (2 : Int)) = some ((2 : Nat) : Int) from rfl, cutV_from] at h8
      have h8 : SqT K H8 p8 [.int x1, .int x2] := h8
      have hu8 : SqT K H8 u [.str "root", .ref l] := same_tup e8 (tup_of upd_same)
      refine ⟨u, p8, _, _, rfl, rfl, hu8, h8, by show 4 ≤ sizeLine; decide, (fun q => nomatch q), (fun _ q => nomatch q), fun _ _ c hc => ?_⟩
      have ec := new_same (o := .tup ([.str "root", .ref l] ++ [.int x1, .int x2])) hc
      have e10 := Same.trans (Same.trans elu e8) ec
      have nlq : l ≠ q4 := fun q => by rw [q, d9] at hl; cases hl
      have dl10 : upd H8 c (.tup ([.str "root", .ref l] ++ [.int x1, .int x2])) l = some (.lst (r.map V.int)) := (Same.trans (Same.trans eu e8) ec) _ _ upd_same
      have d10 := e10 _ _ d9
      have tc : SqT K (upd H8 c (.tup ([.str "root", .ref l] ++ [.int x1, .int x2]))) c [.str "root", .ref l, .int x1, .int x2] := tup_of upd_same
      generalize upd H8 c (.tup ([.str "root", .ref l] ++ [.int x1, .int x2])) = Gb at e10 dl10 d10 tc
      refine ⟨q4, vs4, .ref c, rfl, rfl, d10, small1000 (by rw [l9, l8, l7]; decide), ?_⟩
      have sb : Same G9 (upd Gb q4 (.lst (vs4 ++ [.ref c]))) := same_mut (Same.trans sa e10) f9
      have hGG : Same G G9 := Same.trans e8' e9
      refine ⟨.ref q4, rfl, k _ q4 (vs4 ++ [.ref c]) (Same.trans e06 (Same.trans hGG sb)) upd_same fun v hv => ?_⟩
      rcases List.mem_append.mp hv with q | q
      · exact isp_same sb (i9 v q)
      · rw [List.mem_singleton.mp q]
        refine ⟨some ("root", [.lst r, .int x1, .int x2]), .tup (tup_mut d10 tc) (.cons (.lst ?_) (.cons (.int _ hx1) (.cons (.int _ hx2) .nil))) (by simp) (by decide +kernel)⟩
        rw [upd_ne nlq]
        exact dl10
    · exact ⟨.ref q2, rfl, k _ q2 vs7 (Same.trans e06 e7) d7 i7⟩
theorem cl__law_near (T : Txt K mg) : Cl P w K mg base 2 "_law_near" (spNear K) := by
  obtain ⟨f, fd, F, hm, hb⟩ := T.f__law_near
  exact cl_of (ok__law_near F T) hm F.kp hb
theorem lt_rep {n : Int} {w : List Int} (h : Lt n w) : ∀ k, Lt n (Fr.rep w k)
  | 0 => lt_nil
  | k + 1 => lt_app (lt_rep h k) h
theorem lt_pw {n m : Int} {w : List Int} (h : Lt n w) : Lt n (Fr.pw w m) := by
  unfold Fr.pw
  split
  · exact lt_rep (lt_opp h) _
  · exact lt_rep h _
theorem len_pw {m : Int} {w : List Int} {c : Nat} (h1 : -(c : Int) ≤ m) (h2 : m ≤ c) : (Fr.pw w m).length ≤ c * w.length := by
  unfold Fr.pw
  split
  · rw [Fr.rep_len, Fr.opp_len]
    exact Nat.mul_le_mul (by omega) (Nat.le_refl _)
  · rw [Fr.rep_len]
    exact Nat.mul_le_mul (by omega) (Nat.le_refl _)
theorem fl2' (a b : Addr) (x y : List Int) : fl [(a, x), (b, y)] = x ++ y := by
  show x ++ (y ++ []) = x ++ y
  rw [List.append_nil]
def spTwo (K : PySem.W.Frag) : Sp := fun vs H Q _ => ∃ (S : Addr) (n : Int), vs = [.ref S, .int n] ∧ Sk H (some S) ∧ 1 ≤ n ∧ n ≤ 5 ∧ ∀ H' t pa pb one other, Rs (some S) H H' → SqT K H' t [.ref pa, .ref pb] → SqT K H' pa (one.map V.int) → Wd n one → one.length ≤ 25 → SqT K H' pb (other.map V.int) → Wd n other → other.length ≤ 25 → Q (.ref t) H'
theorem ok__law_two {f : Addr} {fd : FuncData} (F : Fun K "_law_two" "_law_two" st__law_two f fd) (T : Txt K mg) : FnOk P w K mg base CX0 3 f fd ["sack", "letters"] (spTwo K) := by
  have c__law_word : Cl P w K mg base 2 "_law_word" (spWord K) := cl__law_word T
  have c__law_bare : Cl P w K mg base 1 "_law_bare" (spLBare K) := cl__law_bare T
  have c__law_back : Cl P w K mg base 1 "_law_back" (spOpp K) := cl__law_back T
  have c__law_powered : Cl P w K mg base 2 "_law_powered" (spPowered K) := cl__law_powered T
  have c__law_drawn : Cl P w K mg base 1 "_law_drawn" spDrawn := cl__law_drawn T
  refine F.ok sc__law_two (fun vs H Q E h => ?_) (fun cdv A outer s H vs Q E hr h => ?_)
  · obtain ⟨S, n, rfl, _⟩ := h
    rfl
  · obtain ⟨S, n, rfl, hS, n1, n5, k⟩ := h
    refine ⟨_, (pss_cons (ps_par (i := 2) (j := 3) rfl sc__law_two.nd rfl rfl (by decide) rfl rfl (pa_cons (pe_f c__law_word hr (by decide) rfl (pa_cons (pv 0) (pa_cons (pv 1) (pa_cons pe_int pa_nil)))) (pa_cons (pe_f c__law_word hr (by decide) rfl (pa_cons (pv 0) (pa_cons (pv 1) (pa_cons pe_int pa_nil)))) pa_nil)) (by with_unfolding_all rfl)) (pss_cons (ps_set (i := 2) sc__law_two.nd rfl (Or.inl rfl) (pe_f c__law_bare hr (by decide) rfl (pa_cons (pe_op (kop_catA (K := K)) (pe_op (kop_catA (K := K)) (pv 3) (pv 2)) (pe_f c__law_back hr (by decide) rfl (pa_cons (pv 3) pa_nil))) pa_nil))) (pss_cons (ps_par (i := 4) (j := 5) rfl sc__law_two.nd rfl rfl (by decide) rfl rfl (pa_cons (pe_f c__law_powered hr (by decide) rfl (pa_cons (pv 2) (pa_cons (pe_op op_sub (pe_f c__law_drawn hr (by decide) rfl (pa_cons (pv 0) (pa_cons pe_int pa_nil))) pe_int) pa_nil))) (pa_cons (pe_f c__law_powered hr (by decide) rfl (pa_cons (pv 2) (pa_cons (pe_f c__law_drawn hr (by decide) rfl (pa_cons (pv 0) (pa_cons pe_int pa_nil))) pa_nil))) pa_nil)) (by with_unfolding_all rfl)) (pss_cons (ps_if (pt_cmpR op_eq (pe_f c__law_drawn hr (by decide) rfl (pa_cons (pv 0) (pa_cons pe_int pa_nil))) pe_int (nomark _)) (pss_one (ps_set (i := 5) sc__law_two.nd rfl (Or.inl rfl) (pe_f c__law_word hr (by decide) rfl (pa_cons (pv 0) (pa_cons (pv 1) (pa_cons pe_int pa_nil)))))) pss_nil) (pss_one (ps_ret (pe_tup (pa_cons (pv 4) (pa_cons (pv 5) pa_nil))))))))), ?_⟩
    refine ⟨.ref S, rfl, .int n, rfl, S, n, 3, rfl, hS, n1, n5, by decide, by decide, fun H1 p0 w0 r1 h0 wd0 l0 => ⟨.ref S, rfl, .int n, rfl, S, n, 2, rfl, r1.s1, n1, n5, by decide, by decide, fun H2 pb by_ r2 hb wb lb => ⟨_, _, rfl, ?_⟩⟩⟩
    have h0 := r2.tup h0
    have rb := r1.tr r2
    refine ⟨.ref pb, rfl, .ref p0, rfl, cat_ints hb h0 (by omega) fun G1 p1 g1 h1 => ⟨.ref pb, rfl, pb, by_, rfl, same_tup g1 hb, by omega, fun G2 p2 g2 h2 => cat_ints (same_tup g2 h1) h2 (by rw [List.length_append, Fr.opp_len]; omega) fun G3 p3 g3 h3 => ⟨p3, _, rfl, .inr h3, by simp only [List.length_append, Fr.opp_len]; omega, fun G4 p4 g4 h4 => ?_⟩⟩⟩
    have wbase := wd_red (lt_app (lt_app wb.lt wd0.lt) (lt_opp wb.lt))
    have lbase := len_red (by_ ++ w0 ++ Fr.opp by_)
    rw [List.length_append, List.length_append, Fr.opp_len] at lbase
    generalize Fr.red (by_ ++ w0 ++ Fr.opp by_) = bse at h4 wbase lbase
    have rb := rb.tr (.same rb.s1 (Same.trans (Same.trans (Same.trans g1 g2) g3) g4))
    have lp : ∀ (c : Nat) (m : Int), -(c : Int) ≤ m → m ≤ c → c ≤ 3 → Wd n (Fr.red (Fr.pw bse m)) ∧ (Fr.red (Fr.pw bse m)).length ≤ 25 := fun c m m1 m2 hc => ⟨wd_red (lt_pw wbase.lt), by
      have z1 := len_red (Fr.pw bse m)
      have z2 := len_pw (w := bse) m1 m2
      have z3 : c * bse.length ≤ 3 * 7 := Nat.mul_le_mul hc (by omega)
      omega⟩
    refine ⟨.ref p4, rfl, .ref S, rfl, S, _, rfl, rb.s1, by decide, by decide, fun G5 x r5 x0 x1 => ?_⟩
    obtain ⟨m, hm⟩ : ∃ m : Int, x - 2 = m := ⟨_, rfl⟩
    refine c_part (sub_is hm ?_)
    refine ⟨p4, bse, m, rfl, r5.tup h4, by omega, by omega, by omega, fun G6 pa g6 ha => ?_⟩
    obtain ⟨wa, la⟩ := lp 2 m (by omega) (by omega) (by decide)
    generalize Fr.red (Fr.pw bse m) = one at ha wa la
    have r56 := r5.tr (.same r5.s1 g6)
    refine ⟨.ref p4, rfl, .ref S, rfl, S, _, rfl, r56.s1, by decide, by decide, fun G7 y r7 y0 y1 => ?_⟩
    refine ⟨p4, bse, y, rfl, r7.tup (r56.tup h4), by omega, by omega, by omega, fun G8 pc g8 hc => ⟨_, _, rfl, ?_⟩⟩
    obtain ⟨wc, lc⟩ := lp 3 y (by omega) (by omega) (by decide)
    generalize Fr.red (Fr.pw bse y) = other at hc wc lc
    have ha := same_tup g8 (r7.tup ha)
    have rb := ((rb.tr r56).tr r7).tr (.same r7.s1 g8)
    have last : ∀ H' pd (oth : List Int), Rs (some S) G8 H' → SqT K H' pd (oth.map V.int) → Wd n oth → oth.length ≤ 25 → (tRet (tTup (tCons (tVar 4) (tCons (tVar 5) tNil)))) { nx := fun _ H' => Q .non H', rt := Q } [some (.ref S), some (.int n), some (.ref p4), some (.ref pb), some (.ref pa), some (.ref pd)] H' := fun H' pd oth r hd wd ld =>
      ⟨.ref pa, rfl, .ref pd, rfl, by show 2 ≤ sizeLine; decide, fun t ht => k _ t pa pd one oth ((rb.tr r).tr (.same r.s1 (new_same ht))) (tup_of upd_same) (same_tup (new_same ht) (r.tup ha)) wa la (same_tup (new_same ht) hd) wd ld⟩
    refine ⟨.ref S, rfl, S, _, rfl, rb.s1, by decide, by decide, fun G9 z r9 z0 z1 => ⟨rfl, _, rfl, ?_⟩⟩
    refine ite2 (fun q1 => ?_) fun q1 => last _ pc other r9 (r9.tup hc) wc lc
    exact ⟨.ref S, rfl, .int n, rfl, S, n, 5, rfl, r9.s1, n1, n5, by decide, by decide, fun G10 pe ws r10 he we le => last _ pe ws (r9.tr r10) he we (by omega)⟩
theorem cl__law_two (T : Txt K mg) : Cl P w K mg base 3 "_law_two" (spTwo K) := by
  obtain ⟨f, fd, F, hm, hb⟩ := T.f__law_two
  exact cl_of (ok__law_two F T) hm F.kp hb
def spProd (K : PySem.W.Frag) : Sp := fun vs H Q _ => ∃ (n : Int) (ws : List (Addr × List Int)), vs = .int n :: (ws.map fun p => V.ref p.1) ∧ 1 ≤ n ∧ n ≤ 5 ∧ Ws K H n ws ∧ ws.length ≤ 50 ∧ ∀ H' p, Same H H' → SqT K H' p ((Fr.red (fl ws)).map V.int) → Q (.ref p) H'
def spProd0 (K : PySem.W.Frag) : Sp := fun vs H Q _ => ∃ (n : Int) (t : Addr) (ws : List (Addr × List Int)), vs = [.int n, .ref t] ∧ 1 ≤ n ∧ n ≤ 5 ∧ SqT K H t (ws.map fun p => V.ref p.1) ∧ Ws K H n ws ∧ ws.length ≤ 50 ∧ ∀ H' p, Same H H' → SqT K H' p ((Fr.red (fl ws)).map V.int) → Q (.ref p) H'
theorem fl_len {H : Hp} {n : Int} : ∀ {ws : List (Addr × List Int)}, Ws K H n ws → (fl ws).length ≤ ws.length * 200
  | [], _ => Nat.le_refl _
  | p :: ws, h => by
    have h1 := (h p List.mem_cons_self).2.2
    have h2 := fl_len (ws := ws) fun q hq => h q (List.mem_cons_of_mem _ hq)
    show (p.2 ++ fl ws).length ≤ (ws.length + 1) * 200
    rw [List.length_append, Nat.succ_mul]
    omega
theorem cl_product (T : Txt K mg) : Cl P w K mg base 6 "product" (spProd K) := by
  obtain ⟨f, fd, F, hm⟩ := T.f_product
  have c_check_words : Cl P w K mg base 5 "check_words" (spChkWords K) := cl_check_words T
  have c_product_of : Cl P w K mg base 2 "product_of" (spJoined K) := cl_product_of T
  refine ⟨f, ?_, hm, F.kp⟩
  obtain ⟨oc, od, kV, doc, pm, an, cdv, ct, osl, rfl, lk, hcd⟩ := F.ex
  have G := StX.fn_star (P := P) (w := w) (mg := mg) (base := base) (CX := CX0) (k := 5) (ps := ["letters"]) (pv := "words") (sp := spProd0 K) lk hcd sc_product StX.cxUp_none (StX.bind_star1 (B := fun l => bindArgs (PySem.W.fnOf "product" "product" (defArgs st_product) (defBody st_product) (defScope st_product) .none kV doc pm an cdv ct) ⟨l, []⟩) (fun a => rfl) (fun a r rs => rfl)) (fun A outer s H vs Q E hr h => by
    obtain ⟨n, t, ws, rfl, n1, n5, ht, hw, hl, k⟩ := h
    have body : ∃ t', PSs (cxOf CX0 P w K mg base nm_product "product" (defScope st_product) f cdv A outer s H E).nox (defBody st_product) t' ∧ t' { nx := fun _ H' => Q .non H', rt := Q } (start nm_product [.int n, .ref t]) H := by
      refine ⟨_, (pss_cons (ps_expr (pe_f c_check_words hr (by decide) rfl (pa_cons (pv 0) (pa_cons (pv 1) pa_nil)))) (pss_cons (ps_if (pt_cmpR op_gt (pe_callB (kcall_len (K := K)) (by rfl) T.n_len bo_len (pa_cons (pv 1) pa_nil)) (pe_glob rfl T.c_MOST_MULTIPLIED.choose_spec rel_int) (nomark _)) (pss_one ps_never) pss_nil) (pss_one (ps_ret (pe_f c_product_of hr (by decide) rfl (pa_cons (pv 1) pa_nil)))))), ?_⟩
      refine ⟨.int n, rfl, .ref t, rfl, n, t, ws, rfl, n1, n5, ht, hw, fun H1 e1 => ?_⟩
      refine ⟨.ref t, rfl, t, _, rfl, .inr (same_tup e1 ht), _, _, rfl, rfl, _, rfl, ?_⟩
      rw [decide_eq_false (by rw [List.length_map]; omega)]
      have z := fl_len hw
      exact ⟨.ref t, rfl, t, ws, rfl, same_tup e1 ht, fun p hp => same_tup e1 (hw p hp).1, by omega, fun H2 p e2 hp => k _ _ (Same.trans e1 e2) hp⟩
    obtain ⟨t', ht', q⟩ := body
    exact ⟨t', ht'.nox, q⟩)
  refine G.imp fun vs H Q E h => ?_
  obtain ⟨n, ws, rfl, n1, n5, hw, hl, k⟩ := h
  refine ⟨[.int n], _, rfl, rfl, Nat.le_trans (by rw [List.length_map]; exact hl) (by decide), fun t ht => ⟨n, t, ws, rfl, n1, n5, tup_of upd_same, fun p hp => ?_, hl, fun H2 p e2 hp => k _ _ (Same.trans (new_same ht) e2) hp⟩⟩
  obtain ⟨a1, a2, a3⟩ := hw p hp
  exact ⟨same_tup (new_same ht) a1, a2, a3⟩
def spPow (K : PySem.W.Frag) : Sp := fun vs H Q _ => ∃ (n : Int) (a : Addr) (ns : List Int) (m : Int), vs = [.int n, .ref a, .int m] ∧ 1 ≤ n ∧ n ≤ 5 ∧ SqT K H a (ns.map V.int) ∧ Wd n ns ∧ ns.length ≤ 200 ∧ -50 ≤ m ∧ m ≤ 50 ∧ ∀ H' p, Same H H' → SqT K H' p ((Fr.red (Fr.pw ns m)).map V.int) → Q (.ref p) H'
theorem ok_power {f : Addr} {fd : FuncData} (F : Fun K "power" "power" st_power f fd) (T : Txt K mg) : FnOk P w K mg base CX0 6 f fd ["letters", "word", "many"] (spPow K) := by
  have c_check_words : Cl P w K mg base 5 "check_words" (spChkWords K) := cl_check_words T
  have c_is_within : Cl P w K mg base 2 "is_within" spWithin := cl_is_within T
  have c_repeated : Cl P w K mg base 3 "repeated" (spRep K fun _ => True) := cl_repeated T
  refine F.ok sc_power (fun vs H Q E h => ?_) (fun cdv A outer s H vs Q E hr h => ?_)
  · obtain ⟨n, a, ns, m, rfl, _⟩ := h
    rfl
  · obtain ⟨n, a, ns, m, rfl, n1, n5, h, hw, hl, m0, m5, k⟩ := h
    refine ⟨_, (pss_cons (ps_expr (pe_f c_check_words hr (by decide) rfl (pa_cons (pv 0) (pa_cons (pe_tup (pa_cons (pv 1) pa_nil)) pa_nil)))) (pss_cons (ps_if (pt_not (pt_val (pe_f c_is_within hr (by decide) rfl (pa_cons (pv 2) (pa_cons (pe_un un_neg (pe_glob rfl T.c_MOST_POWER.choose_spec rel_int)) (pa_cons (pe_glob rfl T.c_MOST_POWER.choose_spec rel_int) pa_nil)))))) (pss_one ps_never) pss_nil) (pss_one (ps_ret (pe_f c_repeated hr (by decide) rfl (pa_cons (pv 1) (pa_cons (pv 2) pa_nil))))))), ?_⟩
    refine ⟨.int n, rfl, .ref a, rfl, by show 1 ≤ sizeLine; decide, fun t ht => ⟨n, t, [(a, ns)], rfl, n1, n5, tup_of upd_same, ws_one (same_tup (new_same ht) h) hw hl, fun H1 e1 => ?_⟩⟩
    refine ⟨.int m, rfl, 50, rfl, m, -50, 50, rfl, _, rfl, ?_⟩
    rw [decide_eq_true (show -50 ≤ m ∧ m ≤ 50 from ⟨m0, m5⟩)]
    exact ⟨.ref a, rfl, .int m, rfl, n, a, ns, m, rfl, same_tup (Same.trans (new_same ht) e1) h, hw, hl, m5, m0, True.intro, fun H2 p e2 hp => k _ _ (Same.trans (Same.trans (new_same ht) e1) e2) hp⟩
theorem cl_power (T : Txt K mg) : Cl P w K mg base 6 "power" (spPow K) := by
  obtain ⟨f, fd, F, hm, hb⟩ := T.f_power
  exact cl_of (ok_power F T) hm F.kp hb
def spCommon2 (K : PySem.W.Frag) : Sp := fun vs H Q _ => ∃ (n : Int) (a b : Addr) (ns bs : List Int), vs = [.int n, .ref a, .ref b] ∧ 1 ≤ n ∧ n ≤ 5 ∧ SqT K H a (ns.map V.int) ∧ Wd n ns ∧ ns.length ≤ 50 ∧ SqT K H b (bs.map V.int) ∧ Wd n bs ∧ bs.length ≤ 50 ∧
  ∀ H' t s ys ds, Same H H' → SqT K H' t (.str s :: ys) → Its K H' ys ds → ds ≠ [] → ds.length ≤ 3 → (∀ d, d ∈ ds → d.plain) → (PyData.str s).canLay0 = true → (s = "root" → ∃ p r e1 e2, ys = [.ref p, .int e1, .int e2] ∧ ds = [.row r, .int e1, .int e2]) →
    decide (s = "root") = decide (Fr.red (ns ++ bs) = Fr.red (bs ++ ns)) → (s = "unlike" → ds = [.row (Fr.red (ns ++ bs)), .row (Fr.red (bs ++ ns))]) → paperV n ns bs (some (s, ds)) = true → Q (.ref t) H'
theorem cl_common2 (T : Txt K mg) : Cl P w K mg base 6 "common_root" (spCommon2 K) := (cl_common_root T).imp fun vs H Q E ⟨n, a, b, ns, bs, h1, n1, n5, h2, h3, h4, h5, h6, h7, k⟩ => by
  have lf := len_red (ns ++ bs)
  have lg := len_red (bs ++ ns)
  rw [List.length_append] at lf lg
  refine ⟨n, a, b, ns, bs, h1, n1, n5, h2, h3, by omega, h5, h6, by omega, fun H' t p q e ne ht hp hq => ?_, fun H' t p r e1 e2 e eq ht hp wr rn rl b1 b2 p1 p2 => ?_⟩
  · refine k H' t "unlike" [.ref p, .ref q] [.row (Fr.red (ns ++ bs)), .row (Fr.red (bs ++ ns))] e ht (.cons (.row hp (by omega)) (.cons (.row hq (by omega)) .nil)) (by simp) (by simp) (fun d hd => ?_) (by decide +kernel) (fun z => absurd z (by decide)) ?_ (fun _ => rfl) ?_
    · rcases List.mem_cons.mp hd with z | z
      · rw [z]; exact True.intro
      · rw [List.mem_singleton.mp z]; exact True.intro
    · rw [decide_eq_false ne]
      decide
    · show (if ("unlike" : Str) = "root" then rootV n ns bs [.row (Fr.red (ns ++ bs)), .row (Fr.red (bs ++ ns))] else if ("unlike" : Str) = "unlike" then unlV ns bs [.row (Fr.red (ns ++ bs)), .row (Fr.red (bs ++ ns))] else false) = true
      rw [if_neg (by decide), if_pos rfl]
      show (decide (_ = _) && decide (_ = _) && !decide (_ = _)) = true
      rw [decide_eq_true rfl, decide_eq_true rfl, decide_eq_false ne]
      rfl
  · refine k H' t "root" [.ref p, .int e1, .int e2] [.row r, .int e1, .int e2] e ht (.cons (.row hp rl) (.cons (.int _ (by omega)) (.cons (.int _ (by omega)) .nil))) (by simp) (by simp) (fun d hd => ?_) (by decide +kernel) (fun _ => ⟨p, r, e1, e2, rfl, rfl⟩) ?_ (fun z => absurd z (by decide)) ?_
    · rcases List.mem_cons.mp hd with z | z
      · rw [z]; exact True.intro
      · rcases List.mem_cons.mp z with z | z
        · rw [z]; exact True.intro
        · rw [List.mem_singleton.mp z]; exact True.intro
    · rw [decide_eq_true eq]
      decide
    · show (if ("root" : Str) = "root" then rootV n ns bs [.row r, .int e1, .int e2] else if ("root" : Str) = "unlike" then unlV ns bs [.row r, .int e1, .int e2] else false) = true
      rw [if_pos rfl]
      show (bareB n 200 (r.map some) && (decide (_ = _) && decide (_ = _))) = true
      rw [bare_wd wr (by omega), decide_eq_true p1, decide_eq_true p2]
      rfl
def rootD (r : List Int) (e : Int) : PyData := .tuple [tupD r, .int e]
theorem dp_root {H : Hp} {t p : Addr} {r : List Int} {e : Int} (h : SqT K H t [.ref p, .int e]) (hp : SqT K H p (r.map V.int)) : Dp K H (.ref t) (rootD r e) := .tup h (.cons (dp_tup hp) (.cons (.int e) .nil))
theorem shaped_root (r : List Int) (e : Int) : SeqAt.shaped (rootD r e) = true := shaped_datas [.row r, .int e]
theorem eqv_root (r : List Int) (e : Int) : PyData.eqv (rootD r e) (rootD r e) = true := by
  show (PyData.eqv (tupD r) (tupD r) && ((e == e) && true)) = true
  rw [show PyData.eqv (tupD r) (tupD r) = true from (eqv_tup r r).trans (decide_eq_true rfl), beq_self_eq_true]
  rfl
def spRight : Sp := fun vs H Q _ => ∃ S : Addr, vs = [.ref S] ∧ Sk H (some S) ∧ ∀ H', Rs (some S) H H' → Q (.bl true) H'
theorem ok__law_right {f : Addr} {fd : FuncData} (F : Fun K "_law_right" "_law_right" st__law_right f fd) (T : Txt K mg) : FnOk P w K mg base CX0 7 f fd ["sack"] spRight := by
  have c__law_drawn : Cl P w K mg base 1 "_law_drawn" spDrawn := cl__law_drawn T
  have c__law_two : Cl P w K mg base 3 "_law_two" (spTwo K) := cl__law_two T
  have c__law_root : Cl P w K mg base 2 "_law_root" (spLRoot K) := cl__law_root T
  have c__law_bare : Cl P w K mg base 1 "_law_bare" (spLBare K) := cl__law_bare T
  have c__law_is_due : Cl P w K mg base 3 "_law_is_due" (spIsDue K) := cl__law_is_due T
  have c__law_near : Cl P w K mg base 2 "_law_near" (spNear K) := cl__law_near T
  have c_root : Cl P w K mg base 6 "root" (spRoot K) := cl_root T
  have c_power : Cl P w K mg base 6 "power" (spPow K) := cl_power T
  have c_product : Cl P w K mg base 6 "product" (spProd K) := cl_product T
  have c_common_root : Cl P w K mg base 6 "common_root" (spCommon2 K) := cl_common2 T
  have c_is_common_root : Cl P w K mg base 6 "is_common_root" (spIsPaper K) := cl_is_common_root T
  refine F.ok sc__law_right (fun vs H Q E h => ?_) (fun cdv A outer s H vs Q E hr h => ?_)
  · obtain ⟨S, rfl, _⟩ := h
    rfl
  · obtain ⟨S, rfl, hS, k⟩ := h
    refine ⟨_, (pss_cons (ps_set (i := 1) sc__law_right.nd rfl (Or.inl rfl) (pe_op op_add pe_int (pe_f c__law_drawn hr (by decide) rfl (pa_cons (pv 0) (pa_cons pe_int pa_nil))))) (pss_cons (ps_asg (pe_f c__law_two hr (by decide) rfl (pa_cons (pv 0) (pa_cons (pv 1) pa_nil))) (kpg_tup (K := K) (n := 2) rfl (pgs_cons (pg_name (i := 2) sc__law_right.nd rfl (Or.inl rfl)) (pgs_cons (pg_name (i := 3) sc__law_right.nd rfl (Or.inl rfl)) pgs_nil)))) (pss_cons (ps_for PassesOwn.never rfl (kpi_tup (K := K) (pe_tup (pa_cons (pv 2) (pa_cons (pv 3) pa_nil)))) (pg_name (i := 4) sc__law_right.nd rfl (Or.inl rfl)) (pss_one (ps_if (pt_cmpR (kop_neD (K := K) hr.units) (pv 4) (pe_tup pa_nil) (nomark _)) (pss_cons (ps_set (i := 5) sc__law_right.nd rfl (Or.inl rfl) (pe_f c_root hr (by decide) rfl (pa_cons (pv 1) (pa_cons (pv 4) pa_nil)))) (pss_cons (ps_if (PW.pt (pw_or (pt_cmpR (kop_neD (K := K) hr.units) (pv 5) (pe_f c__law_root hr (by decide) rfl (pa_cons (pv 4) pa_nil)) (nomark _)) (pw_or1 (pt_cmpR (kop_neD (K := K) hr.units) (pe_f c_power hr (by decide) rfl (pa_cons (pv 1) (pa_cons (pe_ix (kix_tup (K := K)) (pv 5) pe_int (fun _ _ => rfl)) (pa_cons (pe_ix (kix_tup (K := K)) (pv 5) pe_int (fun _ _ => rfl)) pa_nil)))) (pv 4) (nomark _))))) (pss_one (ps_ret pe_bl)) pss_nil) (pss_one (ps_if (pt_cmpR (kop_neD (K := K) hr.units) (pe_f c_root hr (by decide) rfl (pa_cons (pv 1) (pa_cons (pe_ix (kix_tup (K := K)) (pv 5) pe_int (fun _ _ => rfl)) pa_nil))) (pe_tup (pa_cons (pe_ix (kix_tup (K := K)) (pv 5) pe_int (fun _ _ => rfl)) (pa_cons pe_int pa_nil))) (nomark _)) (pss_one (ps_ret pe_bl)) pss_nil)))) pss_nil))) (pss_cons (ps_par (i := 5) (j := 6) rfl sc__law_right.nd rfl rfl (by decide) rfl rfl (pa_cons (pe_f c_common_root hr (by decide) rfl (pa_cons (pv 1) (pa_cons (pv 2) (pa_cons (pv 3) pa_nil)))) (pa_cons (pe_cmpR (kop_eqD (K := K) hr.units) (pe_f c__law_bare hr (by decide) rfl (pa_cons (pe_op (kop_catA (K := K)) (pv 2) (pv 3)) pa_nil)) (pe_f c__law_bare hr (by decide) rfl (pa_cons (pe_op (kop_catA (K := K)) (pv 3) (pv 2)) pa_nil)) (nomark _)) pa_nil)) (by with_unfolding_all rfl)) (pss_cons (ps_if (PW.pt (pw_or (pt_cmpR op_ne (pe_cmpR (kop_eqD (K := K) hr.units) (pe_ix (kix_tup (K := K)) (pv 5) pe_int (fun _ _ => rfl)) pe_str (nomark _)) (pv 6) (nomark _)) (pw_or1 (pt_not (pt_val (pe_f c__law_is_due hr (by decide) rfl (pa_cons (pv 1) (pa_cons (pv 2) (pa_cons (pv 3) (pa_cons (pv 5) pa_nil)))))))))) (pss_one (ps_ret pe_bl)) pss_nil) (pss_cons (ps_if (pt_cmpR op_ne (pe_cmpR (kop_eqD (K := K) hr.units) (pe_f c_product hr (by decide) rfl (pa_cons (pv 1) (pa_cons (pv 2) (pa_cons (pv 3) pa_nil)))) (pe_f c_product hr (by decide) rfl (pa_cons (pv 1) (pa_cons (pv 3) (pa_cons (pv 2) pa_nil)))) (nomark _)) (pv 6) (nomark _)) (pss_one (ps_ret pe_bl)) pss_nil) (pss_cons (ps_for PassesOwn.never rfl (kpi_list (K := K) (pe_f c__law_near hr (by decide) rfl (pa_cons (pv 2) (pa_cons (pv 3) (pa_cons (pv 5) pa_nil))))) (pg_name (i := 7) sc__law_right.nd rfl (Or.inl rfl)) (pss_one (ps_if (pt_cmpR op_ne (pe_f c_is_common_root hr (by decide) rfl (pa_cons (pv 1) (pa_cons (pv 2) (pa_cons (pv 3) (pa_cons (pv 7) pa_nil))))) (pe_f c__law_is_due hr (by decide) rfl (pa_cons (pv 1) (pa_cons (pv 2) (pa_cons (pv 3) (pa_cons (pv 7) pa_nil))))) (nomark _)) (pss_one (ps_ret pe_bl)) pss_nil))) (pss_one (ps_ret pe_bl))))))))), ?_⟩
    refine ⟨.ref S, rfl, S, _, rfl, hS, by decide, by decide, fun H1 r r1 a0 a1 => ?_⟩
    obtain ⟨n, hn⟩ : ∃ n : Int, 1 + r = n := ⟨_, rfl⟩
    refine add_is hn ?_
    have n1 : 1 ≤ n := by omega
    have n5 : n ≤ 5 := by omega
    refine ⟨.ref S, rfl, .int n, rfl, S, n, rfl, r1.s1, n1, n5, fun H2 t pa pb one other r2 ht ha wa la hb wb lb => ⟨t, _, rfl, ht, rfl, _, _, rfl, _, _, rfl, rfl, ?_⟩⟩
    have rb := r1.tr r2
    clear hn a0 a1 r1 r2
    refine ⟨.ref pa, rfl, .ref pb, rfl, by show 2 ≤ sizeLine; decide, fun t2 ht2 => ⟨t2, rfl, ⟨_, tup_of upd_same⟩, ?_⟩⟩
    have e0 := new_same (o := .tup [.ref pa, .ref pb]) ht2
    have t3 : SqT K (upd H2 t2 (.tup [.ref pa, .ref pb])) t2 [.ref pa, .ref pb] := tup_of upd_same
    generalize upd H2 t2 (.tup [.ref pa, .ref pb]) = G at e0 t3
    have ha := same_tup e0 ha
    have hb := same_tup e0 hb
    have rb := rb.tr (.same rb.s1 e0)
    refine for_tup (K := K) (a := t2) (xs := [.ref pa, .ref pb]) (fun i σ H' => Same G H' ∧ ∃ x y, σ = [some (.ref S), some (.int n), some (.ref pa), some (.ref pb), x, y, none, none]) ⟨Same.refl _, none, none, rfl⟩ (fun i σ H' _ q => same_tup q.1 t3) (fun i x σ H' hxi q => ?_) fun σ H' q => ?_
    · obtain ⟨e1, y1, y2, rfl⟩ := q
      have hx : ∃ pw ws, x = .ref pw ∧ SqT K H' pw (ws.map V.int) ∧ Wd n ws ∧ ws.length ≤ 25 := by
        match i, hxi with
        | 0, hxi => cases hxi; exact ⟨pa, one, rfl, same_tup e1 ha, wa, la⟩
        | 1, hxi => cases hxi; exact ⟨pb, other, rfl, same_tup e1 hb, wb, lb⟩
      obtain ⟨pw, ws, rfl, hw, ww, lw⟩ := hx
      refine ⟨.ref pw, rfl, Nat.zero_le _, fun z hz => ne_tup (ms := []) (same_tup (new_same hz) hw) (tup_of upd_same) ⟨_, rfl, ?_⟩⟩
      have ez := new_same (o := .tup []) hz
      generalize upd H' z (.tup []) = G1 at ez
      refine ite2 (fun q1 => ?_) fun q1 => ⟨Same.trans e1 ez, _, _, rfl⟩
      have q1 : ws ≠ [] := by simpa using q1
      have hw := same_tup ez hw
      refine ⟨.int n, rfl, .ref pw, rfl, n, pw, ws, rfl, n1, n5, hw, ww, q1, by omega, fun G2 tt p r e g2 hr2 htt hp => ?_⟩
      have wr := rootw_wd ww hr2
      have lr := rootw_le hr2
      refine ⟨.ref tt, rfl, .ref pw, rfl, n, pw, ws, rfl, same_tup g2 hw, ww, q1, by omega, fun G3 tt2 p2 r2 e2 g3 hr3 htt2 hp2 => ?_⟩
      obtain ⟨rfl, rfl⟩ := Rg.rootw_uniq hr2 hr3
      refine ⟨rootD r e, rootD r e, dp_root (same_tup g3 htt) (same_tup g3 hp), dp_root htt2 hp2, shaped_root _ _, shaped_root _ _, _, rfl, ?_⟩
      rw [eqv_root]
      have htt := same_tup g3 htt
      have hp := same_tup g3 hp
      have g := Same.trans g2 g3
      refine ⟨.int n, rfl, .ref tt, rfl, tt, _, 0, _, rfl, rfl, htt, atI_nat (j := 0) rfl, .ref tt, rfl, tt, _, 1, _, rfl, rfl, htt, atI_nat (j := 1) rfl, n, p, r, (e : Int), rfl, n1, n5, hp, wr.1, by omega, by omega, by omega, fun G4 p4 g4 h4 => ⟨.ref pw, rfl, ne_tup h4 (same_tup (Same.trans g g4) hw) ⟨_, rfl, ?_⟩⟩⟩
      rw [pw_nat, Rg.rootw_pow ww.nf hr2, nodiff]
      have htt := same_tup g4 htt
      have hp := same_tup g4 hp
      refine ⟨.int n, rfl, .ref tt, rfl, tt, _, 0, _, rfl, rfl, htt, atI_nat (j := 0) rfl, n, p, r, rfl, n1, n5, hp, wr.1, wr.2, by omega, fun G5 tt5 p5 r5 e5 g5 hr5 htt5 hp5 => ?_⟩
      obtain ⟨rfl, rfl⟩ := Rg.rootw_uniq (Rg.rootw_self ww.nf hr2) hr5
      refine ⟨.ref tt, rfl, tt, _, 0, _, rfl, rfl, same_tup g5 htt, atI_nat (j := 0) rfl, by show 2 ≤ sizeLine; decide, fun t6 ht6 => ⟨rootD r 1, rootD r 1, dp_root (same_tup (new_same ht6) htt5) (same_tup (new_same ht6) hp5), dp_root (tup_of upd_same) (same_tup (new_same ht6) (same_tup g5 hp)), shaped_root _ _, shaped_root _ _, _, rfl, ?_⟩⟩
      rw [eqv_root]
      exact ⟨Same.trans (Same.trans (Same.trans (Same.trans (Same.trans e1 ez) g) g4) g5) (new_same ht6), _, _, rfl⟩
    · obtain ⟨e1, y1, y2, rfl⟩ := q
      have ha := same_tup e1 ha
      have hb := same_tup e1 hb
      have rb := rb.tr (.same rb.s1 e1)
      clear e0 e1 t3
      refine ⟨.int n, rfl, .ref pa, rfl, .ref pb, rfl, n, pa, pb, one, other, rfl, n1, n5, ha, wa, by omega, hb, wb, by omega, fun G1 t s ys ds g1 ht hi dn dl dpl hs hroot hdec _ hpap => ?_⟩
      have ha1 := same_tup g1 ha
      have hb1 := same_tup g1 hb
      refine ⟨.ref pa, rfl, .ref pb, rfl, cat_ints ha1 hb1 (by omega) fun G2 p2 g2 h2 => ⟨p2, _, rfl, .inr h2, by rw [List.length_append]; omega, fun G3 p3 g3 h3 => ?_⟩⟩
      have g13 := Same.trans g2 g3
      refine ⟨.ref pb, rfl, .ref pa, rfl, cat_ints (same_tup g13 hb1) (same_tup g13 ha1) (by omega) fun G4 p4 g4 h4 => ⟨p4, _, rfl, .inr h4, by rw [List.length_append]; omega, fun G5 p5 g5 h5 => eq_tup (same_tup (Same.trans g4 g5) h3) h5 ⟨_, _, rfl, ?_⟩⟩⟩
      have g15 := Same.trans g13 (Same.trans g4 g5)
      have ha := same_tup g15 ha1
      have hb := same_tup g15 hb1
      have ht := same_tup g15 ht
      have hi := hi.same g15
      have rb := rb.tr (.same rb.s1 (Same.trans g1 g15))
      clear g1 g13 g15 g2 g3 g4 g5 h2 h3 h4 h5 ha1 hb1
      refine ⟨.ref t, rfl, t, _, 0, .str s, rfl, rfl, ht, atI_nat (j := 0) rfl, c_part (eq_str hs (by decide +kernel) ⟨_, rfl, rfl, _, rfl, ?_⟩)⟩
      rw [hdec, nodiff]
      refine ⟨.int n, rfl, .ref pa, rfl, .ref pb, rfl, .ref t, rfl, n, pa, pb, one, other, .ref t, some (s, ds), rfl, ha, by omega, hb, by omega, .tup ht hi (by omega) hs, fun G2 g2 => ⟨_, rfl, ?_⟩⟩
      rw [hpap]
      have ha := same_tup g2 ha
      have hb := same_tup g2 hb
      have ht := same_tup g2 ht
      have hi := hi.same g2
      have rb := rb.tr (.same rb.s1 g2)
      clear g2
      refine ⟨.int n, rfl, .ref pa, rfl, .ref pb, rfl, n, [(pa, one), (pb, other)], rfl, n1, n5, ws_two ha wa (by omega) hb wb (by omega), by simp, fun G2 p2 g2 h2 => ?_⟩
      refine ⟨.int n, rfl, .ref pb, rfl, .ref pa, rfl, n, [(pb, other), (pa, one)], rfl, n1, n5, ws_two (same_tup g2 hb) wb (by omega) (same_tup g2 ha) wa (by omega), by simp, fun G3 p3 g3 h3 => ?_⟩
      rw [fl2] at h2 h3
      refine eq_tup (same_tup g3 h2) h3 ⟨_, rfl, rfl, _, rfl, ?_⟩
      rw [nodiff]
      have g := Same.trans g2 g3
      have ha := same_tup g ha
      have hb := same_tup g hb
      have ht := same_tup g ht
      have hi := hi.same g
      have rb := rb.tr (.same rb.s1 g)
      clear g g2 g3 h2 h3
      refine ⟨.ref pa, rfl, .ref pb, rfl, .ref t, rfl, pa, pb, t, one, other, s, ys, ds, rfl, ha, by omega, hb, by omega, ht, hi, dn, dl, dpl, hs, hroot, fun H5 pl xs e5 d5 hx => ⟨pl, rfl, ⟨_, lst_of d5⟩, for_list (K := K) (a := pl) (xs := xs) (fun i σ H' => Same H5 H' ∧ ∃ x, σ = [some (.ref S), some (.int n), some (.ref pa), some (.ref pb), y1, some (.ref t), some (.bl (decide (Fr.red (one ++ other) = Fr.red (other ++ one)))), x]) ⟨Same.refl _, none, rfl⟩ (fun i σ H' _ q => lst_of (q.1 _ _ d5)) (fun i x σ H' hxi q => ?_) fun σ H' q => ?_⟩⟩
      · obtain ⟨e1, y, rfl⟩ := q
        obtain ⟨o, hvo⟩ := hx x (List.mem_of_getElem? hxi)
        have ha := same_tup (Same.trans e5 e1) ha
        have hb := same_tup (Same.trans e5 e1) hb
        refine ⟨.int n, rfl, .ref pa, rfl, .ref pb, rfl, x, rfl, n, pa, pb, one, other, x, o, rfl, n1, n5, ha, wa, by omega, hb, wb, by omega, hvo.same e1, fun G4 g4 => ?_⟩
        refine ⟨.int n, rfl, .ref pa, rfl, .ref pb, rfl, x, rfl, n, pa, pb, one, other, x, o, rfl, same_tup g4 ha, by omega, same_tup g4 hb, by omega, hvo.same (Same.trans e1 g4), fun G5 g5 => ⟨rfl, _, rfl, ?_⟩⟩
        rw [nodiff]
        exact ⟨Same.trans (Same.trans e1 g4) g5, _, rfl⟩
      · obtain ⟨e1, y, rfl⟩ := q
        exact k _ (rb.tr (.same rb.s1 (Same.trans e5 e1)))
theorem cl__law_right (T : Txt K mg) : Cl P w K mg base 7 "_law_right" spRight := by
  obtain ⟨f, fd, F, hm, hb⟩ := T.f__law_right
  exact cl_of (ok__law_right F T) hm F.kp hb
def spLaw (K : PySem.W.Frag) : Sp := fun vs H Q _ => ∃ (a : Addr) (ns : List Int), vs = [.ref a] ∧ SqL K H a (ns.map V.int) ∧ ns.length ≤ 63 ∧ ∀ H', Q (.bl true) H'
theorem wd_dec {n : Int} {ns : List Int} (h : (ns.all fun i => decide (i ≠ 0) && decide (-n ≤ i) && decide (i ≤ n)) = true) (h2 : nfB ns = true) : Wd n ns := ⟨fun i hi => by
  have := List.all_eq_true.mp h i hi
  rw [Bool.and_eq_true, Bool.and_eq_true] at this
  exact ⟨of_decide_eq_true this.1.1, of_decide_eq_true this.1.2, of_decide_eq_true this.2⟩, nfB_iff.mp h2⟩
theorem cr_by {m : List Int} (x y : Int) (hx : m.getLast? = some x) (hy : m.head? = some y) (h : x ≠ -y) : Rg.Cr m := ⟨fun q => (by rw [q] at hx; cases hx), fun u v hu hv => by
  rw [hx] at hu
  rw [hy] at hv
  cases hu
  cases hv
  exact h⟩
section
variable {H : Hp} {σ : L2.St}
theorem es_root {n : Int} {ns r : List Int} {e : Nat} {te : TE} (h : EvS te σ H (IsI K ns)) (n1 : 1 ≤ n) (n5 : n ≤ 5) (hw : Wd n ns) (hl : ns.length ≤ 200) (hs : Rg.RootW ns r e) : EvS (tFn (spRoot K) (tCons (tC (.int n)) (tCons te tNil))) σ H (IsD K (rootD r (e : Int))) := fun H1 e1 Q q =>
  h H1 e1 _ fun v H2 e2 ⟨a, ev, ha⟩ => ⟨n, a, ns, by rw [ev], n1, n5, ha, hw, Rg.rootw_nil hs, hl, fun H' t p r' e' e3 s' ht hp => by
    obtain ⟨rfl, rfl⟩ := Rg.rootw_uniq hs s'
    exact q _ _ (Same.trans e2 e3) (dp_root ht hp)⟩
theorem es_unlike {n : Int} {ns bs : List Int} {ta tb : TE} (h : EvS ta σ H (IsI K ns)) (g : EvS tb σ H (IsI K bs)) (n1 : 1 ≤ n) (n5 : n ≤ 5) (hw : Wd n ns) (hl : ns.length ≤ 50) (gw : Wd n bs) (gl : bs.length ≤ 50) (hne : Fr.red (ns ++ bs) ≠ Fr.red (bs ++ ns)) :
    EvS (tFn (spCommon2 K) (tCons (tC (.int n)) (tCons ta (tCons tb tNil)))) σ H (IsD K (.tuple [.str "unlike", tupD (Fr.red (ns ++ bs)), tupD (Fr.red (bs ++ ns))])) := fun H1 e Q q =>
  h H1 e _ fun v H2 e2 ⟨a, ev, ha⟩ => g H2 (Same.trans e e2) _ fun v2 H3 e3 ⟨c, ev2, hc⟩ => by
    subst ev ev2
    refine ⟨n, a, c, ns, bs, rfl, n1, n5, same_tup e3 ha, hw, hl, hc, gw, gl, fun H' t s ys ds e4 ht hi _ _ _ hs _ hdec hu hpap => q _ _ (Same.trans (Same.trans e2 e3) e4) ?_⟩
    rw [decide_eq_false hne] at hdec
    have h1 : ¬ s = "root" := of_decide_eq_false hdec
    have h2 : s = "unlike" := by
      by_cases z : s = "unlike"
      · exact z
      · have hpap : (if s = "root" then rootV n ns bs ds else if s = "unlike" then unlV ns bs ds else false) = true := hpap
        rw [if_neg h1, if_neg z] at hpap
        cases hpap
    have hd := hu h2
    subst h2 hd
    exact .tup ht (.cons (.str _) hi.dp)
theorem es_isp {n : Int} {ns bs : List Int} {s : Str} {ds : List Di} {ta tb tv : TE} {b : Bool} (h : EvS ta σ H (IsI K ns)) (g : EvS tb σ H (IsI K bs)) (u : EvT K tv σ H s ds) (n1 : 1 ≤ n) (n5 : n ≤ 5) (hw : Wd n ns) (hl : ns.length ≤ 50) (gw : Wd n bs) (gl : bs.length ≤ 50) (hd : ds.length ≤ 10) (hs : (PyData.str s).canLay0 = true) (hb : paperV n ns bs (some (s, ds)) = b) :
    EvS (tFn (spIsPaper K) (tCons (tC (.int n)) (tCons ta (tCons tb (tCons tv tNil))))) σ H (fun v _ => v = .bl b) := fun H1 e Q q =>
  h H1 e _ fun v H2 e2 ⟨a, ev, ha⟩ => g H2 (Same.trans e e2) _ fun v2 H3 e3 ⟨c, ev2, hc⟩ => u H3 (Same.trans (Same.trans e e2) e3) _ fun v3 H4 e4 ⟨d, ys, ev3, hd3, hi⟩ => by
    subst ev ev2 ev3
    exact ⟨n, a, c, ns, bs, .ref d, some (s, ds), rfl, n1, n5, same_tup (Same.trans e3 e4) ha, hw, hl, same_tup e4 hc, gw, gl, .tup hd3 hi hd hs, fun H' e5 => q _ _ (Same.trans (Same.trans (Same.trans e2 e3) e4) e5) (by rw [hb])⟩
theorem es_comroot {n : Int} {ns bs : List Int} {ta tb : TE} (h : EvS ta σ H (IsI K ns)) (g : EvS tb σ H (IsI K bs)) (n1 : 1 ≤ n) (n5 : n ≤ 5) (hw : Wd n ns) (hl : ns.length ≤ 50) (gw : Wd n bs) (gl : bs.length ≤ 50) (he : Fr.red (ns ++ bs) = Fr.red (bs ++ ns)) :
    EvS (tFn (spCommon2 K) (tCons (tC (.int n)) (tCons ta (tCons tb tNil)))) σ H (fun v H => ∃ t ys, v = .ref t ∧ SqT K H t (.str "root" :: ys)) := fun H1 e Q q =>
  h H1 e _ fun v H2 e2 ⟨a, ev, ha⟩ => g H2 (Same.trans e e2) _ fun v2 H3 e3 ⟨c, ev2, hc⟩ => by
    subst ev ev2
    refine ⟨n, a, c, ns, bs, rfl, n1, n5, same_tup e3 ha, hw, hl, hc, gw, gl, fun H' t s ys ds e4 ht hi _ _ _ hs _ hdec hu hpap => q _ _ (Same.trans (Same.trans e2 e3) e4) ?_⟩
    rw [decide_eq_true he] at hdec
    have h1 : s = "root" := of_decide_eq_true hdec
    subst h1
    exact ⟨t, ys, rfl, ht⟩
theorem es_str (x : Str) : EvS (tC (.str x)) σ H (IsD K (.str x)) := evs_c fun _ _ => .str x
theorem i1 (a : Int) : EvS (tTup (tCons (tC (.int a)) tNil)) σ H (IsI K [a]) := es_row [a] (es_tup (edc (es_int a) ed0) (by show 1 ≤ 1000; decide))
theorem i0 : EvS (tTup tNil) σ H (IsI K []) := es_row [] (es_tup ed0 (by decide))
theorem i2 (a b : Int) : EvS (tTup (tCons (tC (.int a)) (tCons (tC (.int b)) tNil))) σ H (IsI K [a, b]) := es_row [a, b] (es_tup (edc (es_int a) (edc (es_int b) ed0)) (by show 2 ≤ 1000; decide))
theorem im (a : Int) : EvS (tTup (tCons (tUn (rU fun i => V.int (-i)) (tC (.int a))) tNil)) σ H (IsI K [-a]) := es_row [-a] (es_tup (edc (es_neg a) ed0) (by show 1 ≤ 1000; decide))
end
theorem ok_law {f : Addr} {fd : FuncData} (F : Fun K "law" "law" st_law f fd) (T : Txt K mg) : FnOk P w K mg base CX0 8 f fd ["script"] (spLaw K) := by
  have c__law_right : Cl P w K mg base 7 "_law_right" spRight := cl__law_right T
  have c__law_sack : Cl P w K mg base 1 "_law_sack" (spSack K) := cl__law_sack T
  have c_root : Cl P w K mg base 6 "root" (spRoot K) := cl_root T
  have c_common_root : Cl P w K mg base 6 "common_root" (spCommon2 K) := cl_common2 T
  have c_is_common_root : Cl P w K mg base 6 "is_common_root" (spIsPaper K) := cl_is_common_root T
  refine F.ok sc_law (fun vs H Q E h => ?_) (fun cdv A outer s H vs Q E hr h => ?_)
  · obtain ⟨a, ns, rfl, _⟩ := h
    rfl
  · obtain ⟨a, ns, rfl, h, hl, k⟩ := h
    refine ⟨_, (pss_cons (ps_for PassesOwn.never rfl (pi_range1 rfl T.n_range (pa_cons (pe_callB (call_max2 rfl) (by rfl) T.n_max bo_max (pa_cons pe_int (pa_cons (pe_callB (call_min2 rfl) (by rfl) T.n_min bo_min (pa_cons pe_int (pa_cons (pe_callB (kcall_len (K := K)) (by rfl) T.n_len bo_len (pa_cons (pv 0) pa_nil)) pa_nil))) pa_nil))) pa_nil)) (pg_name (i := 1) sc_law.nd rfl (Or.inl rfl)) (pss_one (ps_if (pt_not (pt_val (pe_f c__law_right hr (by decide) rfl (pa_cons (pe_f c__law_sack hr (by decide) rfl (pa_cons (pv 0) (pa_cons (pv 1) pa_nil))) pa_nil)))) (pss_one (ps_ret pe_bl)) pss_nil))) (pss_cons (ps_set (i := 2) sc_law.nd rfl (Or.inl rfl) (pe_lst (pa_cons (pe_f c_root hr (by decide) rfl (pa_cons pe_int (pa_cons (pe_tup (pa_cons pe_int (pa_cons pe_int (pa_cons pe_int (pa_cons pe_int pa_nil))))) pa_nil))) (pa_cons (pe_f c_root hr (by decide) rfl (pa_cons pe_int (pa_cons (pe_tup (pa_cons pe_int (pa_cons pe_int (pa_cons pe_int (pa_cons (pe_un un_neg pe_int) pa_nil))))) pa_nil))) (pa_cons (pe_f c_root hr (by decide) rfl (pa_cons pe_int (pa_cons (pe_tup (pa_cons pe_int pa_nil)) pa_nil))) (pa_cons (pe_f c_common_root hr (by decide) rfl (pa_cons pe_int (pa_cons (pe_tup (pa_cons pe_int (pa_cons pe_int pa_nil))) (pa_cons (pe_tup (pa_cons pe_int (pa_cons pe_int pa_nil))) pa_nil)))) pa_nil)))))) (pss_cons (ps_if (pt_cmpR (kop_neD (K := K) hr.units) (pv 2) (pe_lst (pa_cons (pe_tup (pa_cons (pe_tup (pa_cons pe_int (pa_cons pe_int pa_nil))) (pa_cons pe_int pa_nil))) (pa_cons (pe_tup (pa_cons (pe_tup (pa_cons pe_int (pa_cons pe_int (pa_cons (pe_un un_neg pe_int) pa_nil)))) (pa_cons pe_int pa_nil))) (pa_cons (pe_tup (pa_cons (pe_tup (pa_cons pe_int pa_nil)) (pa_cons pe_int pa_nil))) (pa_cons (pe_tup (pa_cons pe_str (pa_cons (pe_tup (pa_cons pe_int (pa_cons pe_int (pa_cons pe_int (pa_cons pe_int pa_nil))))) (pa_cons (pe_tup (pa_cons pe_int (pa_cons pe_int (pa_cons pe_int (pa_cons pe_int pa_nil))))) pa_nil)))) pa_nil))))) (nomark _)) (pss_one (ps_ret pe_bl)) pss_nil) (pss_one (ps_ret (pe_and (pe_f c_is_common_root hr (by decide) rfl (pa_cons pe_int (pa_cons (pe_tup pa_nil) (pa_cons (pe_tup (pa_cons pe_int (pa_cons pe_int pa_nil))) (pa_cons (pe_tup (pa_cons pe_str (pa_cons (pe_tup (pa_cons (pe_un un_neg pe_int) (pa_cons (pe_un un_neg pe_int) pa_nil))) (pa_cons pe_int (pa_cons (pe_un un_neg pe_int) pa_nil))))) pa_nil))))) (pe_one (pe_cmpR op_eq (pe_ix (kix_tup (K := K)) (pe_f c_common_root hr (by decide) rfl (pa_cons pe_int (pa_cons (pe_tup pa_nil) (pa_cons (pe_tup pa_nil) pa_nil)))) pe_int (fun _ _ => rfl)) pe_str (nomark _))))))))), ?_⟩
    refine ⟨.ref a, rfl, a, _, rfl, .inl h, _, _, rfl, _, _, rfl, _, rfl, by split <;> split <;> omega, by split <;> split <;> omega, for_range (lo := 0) (fun i σ H' => Same H H' ∧ ∃ x, σ = [some (.ref a), x, none]) ⟨Same.refl _, none, rfl⟩ (fun i σ H' hi p => ?_) fun σ H' p => ?_⟩
    · obtain ⟨s1, x, rfl⟩ := p
      have h1 : SqL K H' a (ns.map V.int) := (Rs.same (S := none) True.intro s1).lst (fun q => nomatch q) h
      refine ⟨.ref a, rfl, _, rfl, a, ns, _, rfl, h1, by omega, fun H1 S e1 hS hs => ⟨S, rfl, hs, fun H2 r2 => ⟨true, rfl, ?_⟩⟩⟩
      exact ⟨Same.trans s1 fun b o e => r2.keep b o (fun q => by
        cases q
        rw [hS] at e
        cases e) (e1 b o e), _, rfl⟩
    · obtain ⟨s1, x, rfl⟩ := p
      clear s1 h hl
      dsimp only
      have rt1 : Rg.RootW [1, 2, 1, 2] [1, 2] 2 := ⟨[], [1, 2, 1, 2], 2, Rg.spl_of rfl (cr_by 2 1 rfl rfl (by decide)), by simp, ⟨by decide, by decide, by decide, fun q q0 q1 => by
        have : q = 1 := by omega
        subst this
        decide⟩, rfl, rfl⟩
      have rt2 : Rg.RootW [1, 2, 2, -1] [1, 2, -1] 2 := ⟨[1], [2, 2], 1, Rg.spl_of rfl (cr_by 2 2 rfl rfl (by decide)), by simp, ⟨by decide, by decide, by decide, fun q q0 q1 => by omega⟩, rfl, rfl⟩
      have rt3 : Rg.RootW [1] [1] 1 := ⟨[], [1], 1, Rg.spl_of rfl (cr_by 1 1 rfl rfl (by decide)), by simp, ⟨by decide, by decide, by decide, fun q q0 q1 => by omega⟩, rfl, rfl⟩
      refine asg_seq (es_lst (edc (es_root (n := 2) (es_row [1, 2, 1, 2] (es_tup (edc (es_int 1) (edc (es_int 2) (edc (es_int 1) (edc (es_int 2) ed0)))) (by decide))) (by decide) (by decide) (wd_dec (by decide) (by decide)) (by decide) rt1)
        (edc (es_root (n := 2) (es_row [1, 2, 2, -1] (es_tup (edc (es_int 1) (edc (es_int 2) (edc (es_int 2) (edc (es_neg 1) ed0)))) (by decide))) (by decide) (by decide) (wd_dec (by decide) (by decide)) (by decide) rt2)
        (edc (es_root (n := 2) (i1 1) (by decide) (by decide) (wd_dec (by decide) (by decide)) (by decide) rt3)
        (edc (es_unlike (n := 2) (i2 1 2) (i2 2 1) (by decide) (by decide) (wd_dec (by decide) (by decide)) (by decide) (wd_dec (by decide) (by decide)) (by decide) (by decide)) ed0)))) (by decide)) fun v H1 e1 hv => ?_
      refine ifne_seq (es_var rfl hv) (es_lst (edc (es_tup (edc (row_es (i2 1 2)) (edc (es_int 2) ed0)) (by decide)) (edc (es_tup (edc (es_tup (edc (es_int 1) (edc (es_int 2) (edc (es_neg 1) ed0))) (by decide)) (edc (es_int 2) ed0)) (by decide)) (edc (es_tup (edc (row_es (i1 1)) (edc (es_int 1) ed0)) (by decide)) (edc (es_tup (edc (es_str "unlike") (edc (es_tup (edc (es_int 1) (edc (es_int 2) (edc (es_int 2) (edc (es_int 1) ed0)))) (by decide)) (edc (es_tup (edc (es_int 2) (edc (es_int 1) (edc (es_int 1) (edc (es_int 2) ed0)))) (by decide)) ed0))) (by decide)) ed0)))) (by decide)) (by decide +kernel) (by decide +kernel) (by decide +kernel) fun H2 e2 => ?_
      refine es_isp (n := 2) (b := true) i0 (i2 1 2) (t_disp (s := "root") (eic (te := tTup (tCons (tUn (rU fun i => V.int (-i)) (tC (.int 2))) (tCons (tUn (rU fun i => V.int (-i)) (tC (.int 1))) tNil))) (d := .row [-2, -1]) (evs_of (es_row (K := K) [-2, -1] (es_tup (edc (es_neg 2) (edc (es_neg 1) ed0)) (by decide))) fun v H ⟨a, ev, ha⟩ => ev ▸ .row ha (by decide)) (eic (d := .int 0) (evs_c fun _ _ => .int 0 (by decide)) (eic (d := .int (-1)) (evs_of (es_neg (K := K) 1) fun v H h => by cases h; exact .int _ (by decide)) ei0))) (by simp)) (by decide) (by decide) (wd_dec (by decide) (by decide)) (by decide) (wd_dec (by decide) (by decide)) (by decide) (by simp) (by decide +kernel) (by decide +kernel) H2 (Same.refl _) _ fun v3 H7 e7 ev => ⟨true, ev, ?_⟩
      refine es_comroot (n := 3) i0 i0 (by decide) (by decide) (wd_dec (by decide) (by decide)) (by decide) (wd_dec (by decide) (by decide)) (by decide) (by decide) H7 (Same.refl _) _ fun v4 H8 e8 ⟨t, ys, ev4, ht⟩ => ?_
      subst ev4
      refine ⟨t, _, 0, .str "root", rfl, rfl, ht, atI_nat (j := 0) rfl, rfl, ?_⟩
      rw [decide_eq_true rfl]
      exact k _
end
theorem all_mk {P : Program} {w : World} {K : PySem.W.Frag} {h : Heap} {mg : Str → Option Value} {fa : Addr}
    {f1 : Addr} {od1 an1 : Option Addr} {sl1 : Array (Option Value)} {oc1 kV1 dc1 pm1 cd1 ct1 : Value}
    {f2 : Addr} {od2 an2 : Option Addr} {sl2 : Array (Option Value)} {oc2 kV2 dc2 pm2 cd2 ct2 : Value}
    {f3 : Addr} {od3 an3 : Option Addr} {sl3 : Array (Option Value)} {oc3 kV3 dc3 pm3 cd3 ct3 : Value}
    {f4 : Addr} {od4 an4 : Option Addr} {sl4 : Array (Option Value)} {oc4 kV4 dc4 pm4 cd4 ct4 : Value}
    {f5 : Addr} {od5 an5 : Option Addr} {sl5 : Array (Option Value)} {oc5 kV5 dc5 pm5 cd5 ct5 : Value}
    {f6 : Addr} {od6 an6 : Option Addr} {sl6 : Array (Option Value)} {oc6 kV6 dc6 pm6 cd6 ct6 : Value}
    {f7 : Addr} {od7 an7 : Option Addr} {sl7 : Array (Option Value)} {oc7 kV7 dc7 pm7 cd7 ct7 : Value}
    {f8 : Addr} {od8 an8 : Option Addr} {sl8 : Array (Option Value)} {oc8 kV8 dc8 pm8 cd8 ct8 : Value}
    {f9 : Addr} {od9 an9 : Option Addr} {sl9 : Array (Option Value)} {oc9 kV9 dc9 pm9 cd9 ct9 : Value}
    {f10 : Addr} {od10 an10 : Option Addr} {sl10 : Array (Option Value)} {oc10 kV10 dc10 pm10 cd10 ct10 : Value}
    {f11 : Addr} {od11 an11 : Option Addr} {sl11 : Array (Option Value)} {oc11 kV11 dc11 pm11 cd11 ct11 : Value}
    {f12 : Addr} {od12 an12 : Option Addr} {sl12 : Array (Option Value)} {oc12 kV12 dc12 pm12 cd12 ct12 : Value}
    {f13 : Addr} {od13 an13 : Option Addr} {sl13 : Array (Option Value)} {oc13 kV13 dc13 pm13 cd13 ct13 : Value}
    {f14 : Addr} {od14 an14 : Option Addr} {sl14 : Array (Option Value)} {oc14 kV14 dc14 pm14 cd14 ct14 : Value}
    {f15 : Addr} {od15 an15 : Option Addr} {sl15 : Array (Option Value)} {oc15 kV15 dc15 pm15 cd15 ct15 : Value}
    {f16 : Addr} {od16 an16 : Option Addr} {sl16 : Array (Option Value)} {oc16 kV16 dc16 pm16 cd16 ct16 : Value}
    {f17 : Addr} {od17 an17 : Option Addr} {sl17 : Array (Option Value)} {oc17 kV17 dc17 pm17 cd17 ct17 : Value}
    {f18 : Addr} {od18 an18 : Option Addr} {sl18 : Array (Option Value)} {oc18 kV18 dc18 pm18 cd18 ct18 : Value}
    {f19 : Addr} {od19 an19 : Option Addr} {sl19 : Array (Option Value)} {oc19 kV19 dc19 pm19 cd19 ct19 : Value}
    {f20 : Addr} {od20 an20 : Option Addr} {sl20 : Array (Option Value)} {oc20 kV20 dc20 pm20 cd20 ct20 : Value}
    {f21 : Addr} {od21 an21 : Option Addr} {sl21 : Array (Option Value)} {oc21 kV21 dc21 pm21 cd21 ct21 : Value}
    {f22 : Addr} {od22 an22 : Option Addr} {sl22 : Array (Option Value)} {oc22 kV22 dc22 pm22 cd22 ct22 : Value}
    {f23 : Addr} {od23 an23 : Option Addr} {sl23 : Array (Option Value)} {oc23 kV23 dc23 pm23 cd23 ct23 : Value}
    {f24 : Addr} {od24 an24 : Option Addr} {sl24 : Array (Option Value)} {oc24 kV24 dc24 pm24 cd24 ct24 : Value}
    {f25 : Addr} {od25 an25 : Option Addr} {sl25 : Array (Option Value)} {oc25 kV25 dc25 pm25 cd25 ct25 : Value}
    {f26 : Addr} {od26 an26 : Option Addr} {sl26 : Array (Option Value)} {oc26 kV26 dc26 pm26 cd26 ct26 : Value}
    {f27 : Addr} {od27 an27 : Option Addr} {sl27 : Array (Option Value)} {oc27 kV27 dc27 pm27 cd27 ct27 : Value}
    {f28 : Addr} {od28 an28 : Option Addr} {sl28 : Array (Option Value)} {oc28 kV28 dc28 pm28 cd28 ct28 : Value}
    {f29 : Addr} {od29 an29 : Option Addr} {sl29 : Array (Option Value)} {oc29 kV29 dc29 pm29 cd29 ct29 : Value}
    {f30 : Addr} {od30 an30 : Option Addr} {sl30 : Array (Option Value)} {oc30 kV30 dc30 pm30 cd30 ct30 : Value}
    {f31 : Addr} {od31 an31 : Option Addr} {sl31 : Array (Option Value)} {oc31 kV31 dc31 pm31 cd31 ct31 : Value}
    {f32 : Addr} {od32 an32 : Option Addr} {sl32 : Array (Option Value)} {oc32 kV32 dc32 pm32 cd32 ct32 : Value}
    {f33 : Addr} {od33 an33 : Option Addr} {sl33 : Array (Option Value)} {oc33 kV33 dc33 pm33 cd33 ct33 : Value}
    {f34 : Addr} {od34 an34 : Option Addr} {sl34 : Array (Option Value)} {oc34 kV34 dc34 pm34 cd34 ct34 : Value}
    {f35 : Addr} {od35 an35 : Option Addr} {sl35 : Array (Option Value)} {oc35 kV35 dc35 pm35 cd35 ct35 : Value}
    {f36 : Addr} {od36 an36 : Option Addr} {sl36 : Array (Option Value)} {oc36 kV36 dc36 pm36 cd36 ct36 : Value}
    {f37 : Addr} {od37 an37 : Option Addr} {sl37 : Array (Option Value)} {oc37 kV37 dc37 pm37 cd37 ct37 : Value}
    {f38 : Addr} {od38 an38 : Option Addr} {sl38 : Array (Option Value)} {oc38 kV38 dc38 pm38 cd38 ct38 : Value}
    {t_MAX_LETTERS : Tok}
    {t_MAX_WORD : Tok}
    {t_MOST_POWER : Tok}
    {t_MOST_MULTIPLIED : Tok}
    (X : K.In h)
    (G : h.Ns mainGlobals mg)
    (hfa : mg "law" = some (.ref fa))
    (a1 : PySem.W.nsIn K mainGlobals "is_integer" = some (some (.ref f1)))
    (l1 : K.lookup f1 = some ⟨oc1, od1, .func (PySem.W.fnOf "is_integer" "is_integer" (defArgs st_is_integer) (defBody st_is_integer) (defScope st_is_integer) .none kV1 dc1 pm1 an1 cd1 ct1), sl1⟩)
    (c1 : PySem.W.codeIn K cd1 "is_integer" = true)
    (k1 : PySem.W.keepIn K (.ref f1) = true)
    (a2 : PySem.W.nsIn K mainGlobals "is_within" = some (some (.ref f2)))
    (l2 : K.lookup f2 = some ⟨oc2, od2, .func (PySem.W.fnOf "is_within" "is_within" (defArgs st_is_within) (defBody st_is_within) (defScope st_is_within) .none kV2 dc2 pm2 an2 cd2 ct2), sl2⟩)
    (c2 : PySem.W.codeIn K cd2 "is_within" = true)
    (k2 : PySem.W.keepIn K (.ref f2) = true)
    (a3 : PySem.W.nsIn K mainGlobals "reduced" = some (some (.ref f3)))
    (l3 : K.lookup f3 = some ⟨oc3, od3, .func (PySem.W.fnOf "reduced" "reduced" (defArgs st_reduced) (defBody st_reduced) (defScope st_reduced) .none kV3 dc3 pm3 an3 cd3 ct3), sl3⟩)
    (c3 : PySem.W.codeIn K cd3 "reduced" = true)
    (k3 : PySem.W.keepIn K (.ref f3) = true)
    (a4 : PySem.W.nsIn K mainGlobals "is_reduced" = some (some (.ref f4)))
    (l4 : K.lookup f4 = some ⟨oc4, od4, .func (PySem.W.fnOf "is_reduced" "is_reduced" (defArgs st_is_reduced) (defBody st_is_reduced) (defScope st_is_reduced) .none kV4 dc4 pm4 an4 cd4 ct4), sl4⟩)
    (c4 : PySem.W.codeIn K cd4 "is_reduced" = true)
    (k4 : PySem.W.keepIn K (.ref f4) = true)
    (a5 : PySem.W.nsIn K mainGlobals "product_of" = some (some (.ref f5)))
    (l5 : K.lookup f5 = some ⟨oc5, od5, .func (PySem.W.fnOf "product_of" "product_of" (defArgs st_product_of) (defBody st_product_of) (defScope st_product_of) .none kV5 dc5 pm5 an5 cd5 ct5), sl5⟩)
    (c5 : PySem.W.codeIn K cd5 "product_of" = true)
    (k5 : PySem.W.keepIn K (.ref f5) = true)
    (a6 : PySem.W.nsIn K mainGlobals "opposite" = some (some (.ref f6)))
    (l6 : K.lookup f6 = some ⟨oc6, od6, .func (PySem.W.fnOf "opposite" "opposite" (defArgs st_opposite) (defBody st_opposite) (defScope st_opposite) .none kV6 dc6 pm6 an6 cd6 ct6), sl6⟩)
    (c6 : PySem.W.codeIn K cd6 "opposite" = true)
    (k6 : PySem.W.keepIn K (.ref f6) = true)
    (a7 : PySem.W.nsIn K mainGlobals "split_core" = some (some (.ref f7)))
    (l7 : K.lookup f7 = some ⟨oc7, od7, .func (PySem.W.fnOf "split_core" "split_core" (defArgs st_split_core) (defBody st_split_core) (defScope st_split_core) .none kV7 dc7 pm7 an7 cd7 ct7), sl7⟩)
    (c7 : PySem.W.codeIn K cd7 "split_core" = true)
    (k7 : PySem.W.keepIn K (.ref f7) = true)
    (a8 : PySem.W.nsIn K mainGlobals "repeated" = some (some (.ref f8)))
    (l8 : K.lookup f8 = some ⟨oc8, od8, .func (PySem.W.fnOf "repeated" "repeated" (defArgs st_repeated) (defBody st_repeated) (defScope st_repeated) .none kV8 dc8 pm8 an8 cd8 ct8), sl8⟩)
    (c8 : PySem.W.codeIn K cd8 "repeated" = true)
    (k8 : PySem.W.keepIn K (.ref f8) = true)
    (a9 : PySem.W.nsIn K mainGlobals "is_repeated" = some (some (.ref f9)))
    (l9 : K.lookup f9 = some ⟨oc9, od9, .func (PySem.W.fnOf "is_repeated" "is_repeated" (defArgs st_is_repeated) (defBody st_is_repeated) (defScope st_is_repeated) .none kV9 dc9 pm9 an9 cd9 ct9), sl9⟩)
    (c9 : PySem.W.codeIn K cd9 "is_repeated" = true)
    (k9 : PySem.W.keepIn K (.ref f9) = true)
    (a10 : PySem.W.nsIn K mainGlobals "least_period" = some (some (.ref f10)))
    (l10 : K.lookup f10 = some ⟨oc10, od10, .func (PySem.W.fnOf "least_period" "least_period" (defArgs st_least_period) (defBody st_least_period) (defScope st_least_period) .none kV10 dc10 pm10 an10 cd10 ct10), sl10⟩)
    (c10 : PySem.W.codeIn K cd10 "least_period" = true)
    (k10 : PySem.W.keepIn K (.ref f10) = true)
    (a11 : PySem.W.nsIn K mainGlobals "root_of" = some (some (.ref f11)))
    (l11 : K.lookup f11 = some ⟨oc11, od11, .func (PySem.W.fnOf "root_of" "root_of" (defArgs st_root_of) (defBody st_root_of) (defScope st_root_of) .none kV11 dc11 pm11 an11 cd11 ct11), sl11⟩)
    (c11 : PySem.W.codeIn K cd11 "root_of" = true)
    (k11 : PySem.W.keepIn K (.ref f11) = true)
    (a12 : PySem.W.nsIn K mainGlobals "check_letters" = some (some (.ref f12)))
    (l12 : K.lookup f12 = some ⟨oc12, od12, .func (PySem.W.fnOf "check_letters" "check_letters" (defArgs st_check_letters) (defBody st_check_letters) (defScope st_check_letters) .none kV12 dc12 pm12 an12 cd12 ct12), sl12⟩)
    (c12 : PySem.W.codeIn K cd12 "check_letters" = true)
    (k12 : PySem.W.keepIn K (.ref f12) = true)
    (a13 : PySem.W.nsIn K mainGlobals "check_word" = some (some (.ref f13)))
    (l13 : K.lookup f13 = some ⟨oc13, od13, .func (PySem.W.fnOf "check_word" "check_word" (defArgs st_check_word) (defBody st_check_word) (defScope st_check_word) .none kV13 dc13 pm13 an13 cd13 ct13), sl13⟩)
    (c13 : PySem.W.codeIn K cd13 "check_word" = true)
    (k13 : PySem.W.keepIn K (.ref f13) = true)
    (a14 : PySem.W.nsIn K mainGlobals "check_words" = some (some (.ref f14)))
    (l14 : K.lookup f14 = some ⟨oc14, od14, .func (PySem.W.fnOf "check_words" "check_words" (defArgs st_check_words) (defBody st_check_words) (defScope st_check_words) .none kV14 dc14 pm14 an14 cd14 ct14), sl14⟩)
    (c14 : PySem.W.codeIn K cd14 "check_words" = true)
    (k14 : PySem.W.keepIn K (.ref f14) = true)
    (a15 : PySem.W.nsIn K mainGlobals "is_row" = some (some (.ref f15)))
    (l15 : K.lookup f15 = some ⟨oc15, od15, .func (PySem.W.fnOf "is_row" "is_row" (defArgs st_is_row) (defBody st_is_row) (defScope st_is_row) .none kV15 dc15 pm15 an15 cd15 ct15), sl15⟩)
    (c15 : PySem.W.codeIn K cd15 "is_row" = true)
    (k15 : PySem.W.keepIn K (.ref f15) = true)
    (a16 : PySem.W.nsIn K mainGlobals "is_bare_row" = some (some (.ref f16)))
    (l16 : K.lookup f16 = some ⟨oc16, od16, .func (PySem.W.fnOf "is_bare_row" "is_bare_row" (defArgs st_is_bare_row) (defBody st_is_bare_row) (defScope st_is_bare_row) .none kV16 dc16 pm16 an16 cd16 ct16), sl16⟩)
    (c16 : PySem.W.codeIn K cd16 "is_bare_row" = true)
    (k16 : PySem.W.keepIn K (.ref f16) = true)
    (a17 : PySem.W.nsIn K mainGlobals "product" = some (some (.ref f17)))
    (l17 : K.lookup f17 = some ⟨oc17, od17, .func (PySem.W.fnOf "product" "product" (defArgs st_product) (defBody st_product) (defScope st_product) .none kV17 dc17 pm17 an17 cd17 ct17), sl17⟩)
    (c17 : PySem.W.codeIn K cd17 "product" = true)
    (k17 : PySem.W.keepIn K (.ref f17) = true)
    (a18 : PySem.W.nsIn K mainGlobals "power" = some (some (.ref f18)))
    (l18 : K.lookup f18 = some ⟨oc18, od18, .func (PySem.W.fnOf "power" "power" (defArgs st_power) (defBody st_power) (defScope st_power) .none kV18 dc18 pm18 an18 cd18 ct18), sl18⟩)
    (c18 : PySem.W.codeIn K cd18 "power" = true)
    (k18 : PySem.W.keepIn K (.ref f18) = true)
    (a19 : PySem.W.nsIn K mainGlobals "root" = some (some (.ref f19)))
    (l19 : K.lookup f19 = some ⟨oc19, od19, .func (PySem.W.fnOf "root" "root" (defArgs st_root) (defBody st_root) (defScope st_root) .none kV19 dc19 pm19 an19 cd19 ct19), sl19⟩)
    (c19 : PySem.W.codeIn K cd19 "root" = true)
    (k19 : PySem.W.keepIn K (.ref f19) = true)
    (a20 : PySem.W.nsIn K mainGlobals "common_root" = some (some (.ref f20)))
    (l20 : K.lookup f20 = some ⟨oc20, od20, .func (PySem.W.fnOf "common_root" "common_root" (defArgs st_common_root) (defBody st_common_root) (defScope st_common_root) .none kV20 dc20 pm20 an20 cd20 ct20), sl20⟩)
    (c20 : PySem.W.codeIn K cd20 "common_root" = true)
    (k20 : PySem.W.keepIn K (.ref f20) = true)
    (a21 : PySem.W.nsIn K mainGlobals "exponent_of" = some (some (.ref f21)))
    (l21 : K.lookup f21 = some ⟨oc21, od21, .func (PySem.W.fnOf "exponent_of" "exponent_of" (defArgs st_exponent_of) (defBody st_exponent_of) (defScope st_exponent_of) .none kV21 dc21 pm21 an21 cd21 ct21), sl21⟩)
    (c21 : PySem.W.codeIn K cd21 "exponent_of" = true)
    (k21 : PySem.W.keepIn K (.ref f21) = true)
    (a22 : PySem.W.nsIn K mainGlobals "is_common_root" = some (some (.ref f22)))
    (l22 : K.lookup f22 = some ⟨oc22, od22, .func (PySem.W.fnOf "is_common_root" "is_common_root" (defArgs st_is_common_root) (defBody st_is_common_root) (defScope st_is_common_root) .none kV22 dc22 pm22 an22 cd22 ct22), sl22⟩)
    (c22 : PySem.W.codeIn K cd22 "is_common_root" = true)
    (k22 : PySem.W.keepIn K (.ref f22) = true)
    (a23 : PySem.W.nsIn K mainGlobals "is_root_paper" = some (some (.ref f23)))
    (l23 : K.lookup f23 = some ⟨oc23, od23, .func (PySem.W.fnOf "is_root_paper" "is_root_paper" (defArgs st_is_root_paper) (defBody st_is_root_paper) (defScope st_is_root_paper) .none kV23 dc23 pm23 an23 cd23 ct23), sl23⟩)
    (c23 : PySem.W.codeIn K cd23 "is_root_paper" = true)
    (k23 : PySem.W.keepIn K (.ref f23) = true)
    (a24 : PySem.W.nsIn K mainGlobals "is_unlike_paper" = some (some (.ref f24)))
    (l24 : K.lookup f24 = some ⟨oc24, od24, .func (PySem.W.fnOf "is_unlike_paper" "is_unlike_paper" (defArgs st_is_unlike_paper) (defBody st_is_unlike_paper) (defScope st_is_unlike_paper) .none kV24 dc24 pm24 an24 cd24 ct24), sl24⟩)
    (c24 : PySem.W.codeIn K cd24 "is_unlike_paper" = true)
    (k24 : PySem.W.keepIn K (.ref f24) = true)
    (a25 : PySem.W.nsIn K mainGlobals "_law_sack" = some (some (.ref f25)))
    (l25 : K.lookup f25 = some ⟨oc25, od25, .func (PySem.W.fnOf "_law_sack" "_law_sack" (defArgs st__law_sack) (defBody st__law_sack) (defScope st__law_sack) .none kV25 dc25 pm25 an25 cd25 ct25), sl25⟩)
    (c25 : PySem.W.codeIn K cd25 "_law_sack" = true)
    (k25 : PySem.W.keepIn K (.ref f25) = true)
    (a26 : PySem.W.nsIn K mainGlobals "_law_drawn" = some (some (.ref f26)))
    (l26 : K.lookup f26 = some ⟨oc26, od26, .func (PySem.W.fnOf "_law_drawn" "_law_drawn" (defArgs st__law_drawn) (defBody st__law_drawn) (defScope st__law_drawn) .none kV26 dc26 pm26 an26 cd26 ct26), sl26⟩)
    (c26 : PySem.W.codeIn K cd26 "_law_drawn" = true)
    (k26 : PySem.W.keepIn K (.ref f26) = true)
    (a27 : PySem.W.nsIn K mainGlobals "_law_bare" = some (some (.ref f27)))
    (l27 : K.lookup f27 = some ⟨oc27, od27, .func (PySem.W.fnOf "_law_bare" "_law_bare" (defArgs st__law_bare) (defBody st__law_bare) (defScope st__law_bare) .none kV27 dc27 pm27 an27 cd27 ct27), sl27⟩)
    (c27 : PySem.W.codeIn K cd27 "_law_bare" = true)
    (k27 : PySem.W.keepIn K (.ref f27) = true)
    (a28 : PySem.W.nsIn K mainGlobals "_law_back" = some (some (.ref f28)))
    (l28 : K.lookup f28 = some ⟨oc28, od28, .func (PySem.W.fnOf "_law_back" "_law_back" (defArgs st__law_back) (defBody st__law_back) (defScope st__law_back) .none kV28 dc28 pm28 an28 cd28 ct28), sl28⟩)
    (c28 : PySem.W.codeIn K cd28 "_law_back" = true)
    (k28 : PySem.W.keepIn K (.ref f28) = true)
    (a29 : PySem.W.nsIn K mainGlobals "_law_core" = some (some (.ref f29)))
    (l29 : K.lookup f29 = some ⟨oc29, od29, .func (PySem.W.fnOf "_law_core" "_law_core" (defArgs st__law_core) (defBody st__law_core) (defScope st__law_core) .none kV29 dc29 pm29 an29 cd29 ct29), sl29⟩)
    (c29 : PySem.W.codeIn K cd29 "_law_core" = true)
    (k29 : PySem.W.keepIn K (.ref f29) = true)
    (a30 : PySem.W.nsIn K mainGlobals "_law_word" = some (some (.ref f30)))
    (l30 : K.lookup f30 = some ⟨oc30, od30, .func (PySem.W.fnOf "_law_word" "_law_word" (defArgs st__law_word) (defBody st__law_word) (defScope st__law_word) .none kV30 dc30 pm30 an30 cd30 ct30), sl30⟩)
    (c30 : PySem.W.codeIn K cd30 "_law_word" = true)
    (k30 : PySem.W.keepIn K (.ref f30) = true)
    (a31 : PySem.W.nsIn K mainGlobals "_law_powered" = some (some (.ref f31)))
    (l31 : K.lookup f31 = some ⟨oc31, od31, .func (PySem.W.fnOf "_law_powered" "_law_powered" (defArgs st__law_powered) (defBody st__law_powered) (defScope st__law_powered) .none kV31 dc31 pm31 an31 cd31 ct31), sl31⟩)
    (c31 : PySem.W.codeIn K cd31 "_law_powered" = true)
    (k31 : PySem.W.keepIn K (.ref f31) = true)
    (a32 : PySem.W.nsIn K mainGlobals "_law_root" = some (some (.ref f32)))
    (l32 : K.lookup f32 = some ⟨oc32, od32, .func (PySem.W.fnOf "_law_root" "_law_root" (defArgs st__law_root) (defBody st__law_root) (defScope st__law_root) .none kV32 dc32 pm32 an32 cd32 ct32), sl32⟩)
    (c32 : PySem.W.codeIn K cd32 "_law_root" = true)
    (k32 : PySem.W.keepIn K (.ref f32) = true)
    (a33 : PySem.W.nsIn K mainGlobals "_law_is_word" = some (some (.ref f33)))
    (l33 : K.lookup f33 = some ⟨oc33, od33, .func (PySem.W.fnOf "_law_is_word" "_law_is_word" (defArgs st__law_is_word) (defBody st__law_is_word) (defScope st__law_is_word) .none kV33 dc33 pm33 an33 cd33 ct33), sl33⟩)
    (c33 : PySem.W.codeIn K cd33 "_law_is_word" = true)
    (k33 : PySem.W.keepIn K (.ref f33) = true)
    (a34 : PySem.W.nsIn K mainGlobals "_law_is_due" = some (some (.ref f34)))
    (l34 : K.lookup f34 = some ⟨oc34, od34, .func (PySem.W.fnOf "_law_is_due" "_law_is_due" (defArgs st__law_is_due) (defBody st__law_is_due) (defScope st__law_is_due) .none kV34 dc34 pm34 an34 cd34 ct34), sl34⟩)
    (c34 : PySem.W.codeIn K cd34 "_law_is_due" = true)
    (k34 : PySem.W.keepIn K (.ref f34) = true)
    (a35 : PySem.W.nsIn K mainGlobals "_law_near" = some (some (.ref f35)))
    (l35 : K.lookup f35 = some ⟨oc35, od35, .func (PySem.W.fnOf "_law_near" "_law_near" (defArgs st__law_near) (defBody st__law_near) (defScope st__law_near) .none kV35 dc35 pm35 an35 cd35 ct35), sl35⟩)
    (c35 : PySem.W.codeIn K cd35 "_law_near" = true)
    (k35 : PySem.W.keepIn K (.ref f35) = true)
    (a36 : PySem.W.nsIn K mainGlobals "_law_two" = some (some (.ref f36)))
    (l36 : K.lookup f36 = some ⟨oc36, od36, .func (PySem.W.fnOf "_law_two" "_law_two" (defArgs st__law_two) (defBody st__law_two) (defScope st__law_two) .none kV36 dc36 pm36 an36 cd36 ct36), sl36⟩)
    (c36 : PySem.W.codeIn K cd36 "_law_two" = true)
    (k36 : PySem.W.keepIn K (.ref f36) = true)
    (a37 : PySem.W.nsIn K mainGlobals "_law_right" = some (some (.ref f37)))
    (l37 : K.lookup f37 = some ⟨oc37, od37, .func (PySem.W.fnOf "_law_right" "_law_right" (defArgs st__law_right) (defBody st__law_right) (defScope st__law_right) .none kV37 dc37 pm37 an37 cd37 ct37), sl37⟩)
    (c37 : PySem.W.codeIn K cd37 "_law_right" = true)
    (k37 : PySem.W.keepIn K (.ref f37) = true)
    (a38 : PySem.W.nsIn K mainGlobals "law" = some (some (.ref f38)))
    (l38 : K.lookup f38 = some ⟨oc38, od38, .func (PySem.W.fnOf "law" "law" (defArgs st_law) (defBody st_law) (defScope st_law) .none kV38 dc38 pm38 an38 cd38 ct38), sl38⟩)
    (c38 : PySem.W.codeIn K cd38 "law" = true)
    (k38 : PySem.W.keepIn K (.ref f38) = true)
    (q_MAX_LETTERS : PySem.W.nsIn K mainGlobals "MAX_LETTERS" = some (some (.int 5 t_MAX_LETTERS)))
    (q_MAX_WORD : PySem.W.nsIn K mainGlobals "MAX_WORD" = some (some (.int 200 t_MAX_WORD)))
    (q_MOST_POWER : PySem.W.nsIn K mainGlobals "MOST_POWER" = some (some (.int 50 t_MOST_POWER)))
    (q_MOST_MULTIPLIED : PySem.W.nsIn K mainGlobals "MOST_MULTIPLIED" = some (some (.int 50 t_MOST_MULTIPLIED)))
    (z_abs : PySem.W.nsIn K mainGlobals "abs" = some none)
    (z_all : PySem.W.nsIn K mainGlobals "all" = some none)
    (z_bool : PySem.W.nsIn K mainGlobals "bool" = some none)
    (z_int : PySem.W.nsIn K mainGlobals "int" = some none)
    (z_isinstance : PySem.W.nsIn K mainGlobals "isinstance" = some none)
    (z_len : PySem.W.nsIn K mainGlobals "len" = some none)
    (z_list : PySem.W.nsIn K mainGlobals "list" = some none)
    (z_max : PySem.W.nsIn K mainGlobals "max" = some none)
    (z_min : PySem.W.nsIn K mainGlobals "min" = some none)
    (z_range : PySem.W.nsIn K mainGlobals "range" = some none)
    (z_str : PySem.W.nsIn K mainGlobals "str" = some none)
    (z_tuple : PySem.W.nsIn K mainGlobals "tuple" = some none)
    : ∃ fd : FuncData, (∀ (s : Shared) (v : Value), BindsTo s fd ⟨[v], []⟩ [("script", v)]) ∧ ∀ base : Heap, K.In base → base.Ns mainGlobals mg → FnOk P w K mg base CX0 8 fa fd ["script"] (spLaw K) := by
  have e := hfa.symm.trans (PySem.W.mg_of X G a38)
  cases e
  have F1 := fun_mk (st := st_is_integer) l1 c1 k1
  have b1 := F1.binds (ps := ["value"]) fun _ _ _ _ _ _ us hl => match us, hl with | [_], _ => rfl
  have F2 := fun_mk (st := st_is_within) l2 c2 k2
  have b2 := F2.binds (ps := ["value", "least", "most"]) fun _ _ _ _ _ _ us hl => match us, hl with | [_, _, _], _ => rfl
  have F3 := fun_mk (st := st_reduced) l3 c3 k3
  have b3 := F3.binds (ps := ["row"]) fun _ _ _ _ _ _ us hl => match us, hl with | [_], _ => rfl
  have F4 := fun_mk (st := st_is_reduced) l4 c4 k4
  have b4 := F4.binds (ps := ["row"]) fun _ _ _ _ _ _ us hl => match us, hl with | [_], _ => rfl
  have F5 := fun_mk (st := st_product_of) l5 c5 k5
  have b5 := F5.binds (ps := ["rows"]) fun _ _ _ _ _ _ us hl => match us, hl with | [_], _ => rfl
  have F6 := fun_mk (st := st_opposite) l6 c6 k6
  have b6 := F6.binds (ps := ["row"]) fun _ _ _ _ _ _ us hl => match us, hl with | [_], _ => rfl
  have F7 := fun_mk (st := st_split_core) l7 c7 k7
  have b7 := F7.binds (ps := ["row"]) fun _ _ _ _ _ _ us hl => match us, hl with | [_], _ => rfl
  have F8 := fun_mk (st := st_repeated) l8 c8 k8
  have b8 := F8.binds (ps := ["row", "many"]) fun _ _ _ _ _ _ us hl => match us, hl with | [_, _], _ => rfl
  have F9 := fun_mk (st := st_is_repeated) l9 c9 k9
  have b9 := F9.binds (ps := ["row", "base", "many"]) fun _ _ _ _ _ _ us hl => match us, hl with | [_, _, _], _ => rfl
  have F10 := fun_mk (st := st_least_period) l10 c10 k10
  have b10 := F10.binds (ps := ["row"]) fun _ _ _ _ _ _ us hl => match us, hl with | [_], _ => rfl
  have F11 := fun_mk (st := st_root_of) l11 c11 k11
  have b11 := F11.binds (ps := ["row"]) fun _ _ _ _ _ _ us hl => match us, hl with | [_], _ => rfl
  have F12 := fun_mk (st := st_check_letters) l12 c12 k12
  have b12 := F12.binds (ps := ["letters"]) fun _ _ _ _ _ _ us hl => match us, hl with | [_], _ => rfl
  have F13 := fun_mk (st := st_check_word) l13 c13 k13
  have b13 := F13.binds (ps := ["letters", "word"]) fun _ _ _ _ _ _ us hl => match us, hl with | [_, _], _ => rfl
  have F14 := fun_mk (st := st_check_words) l14 c14 k14
  have b14 := F14.binds (ps := ["letters", "words"]) fun _ _ _ _ _ _ us hl => match us, hl with | [_, _], _ => rfl
  have F15 := fun_mk (st := st_is_row) l15 c15 k15
  have b15 := F15.binds (ps := ["letters", "value", "most"]) fun _ _ _ _ _ _ us hl => match us, hl with | [_, _, _], _ => rfl
  have F16 := fun_mk (st := st_is_bare_row) l16 c16 k16
  have b16 := F16.binds (ps := ["letters", "value", "most"]) fun _ _ _ _ _ _ us hl => match us, hl with | [_, _, _], _ => rfl
  have F17 := fun_mk (st := st_product) l17 c17 k17
  have F18 := fun_mk (st := st_power) l18 c18 k18
  have b18 := F18.binds (ps := ["letters", "word", "many"]) fun _ _ _ _ _ _ us hl => match us, hl with | [_, _, _], _ => rfl
  have F19 := fun_mk (st := st_root) l19 c19 k19
  have b19 := F19.binds (ps := ["letters", "word"]) fun _ _ _ _ _ _ us hl => match us, hl with | [_, _], _ => rfl
  have F20 := fun_mk (st := st_common_root) l20 c20 k20
  have b20 := F20.binds (ps := ["letters", "one", "other"]) fun _ _ _ _ _ _ us hl => match us, hl with | [_, _, _], _ => rfl
  have F21 := fun_mk (st := st_exponent_of) l21 c21 k21
  have b21 := F21.binds (ps := ["base", "word"]) fun _ _ _ _ _ _ us hl => match us, hl with | [_, _], _ => rfl
  have F22 := fun_mk (st := st_is_common_root) l22 c22 k22
  have b22 := F22.binds (ps := ["letters", "one", "other", "value"]) fun _ _ _ _ _ _ us hl => match us, hl with | [_, _, _, _], _ => rfl
  have F23 := fun_mk (st := st_is_root_paper) l23 c23 k23
  have b23 := F23.binds (ps := ["letters", "one", "other", "value"]) fun _ _ _ _ _ _ us hl => match us, hl with | [_, _, _, _], _ => rfl
  have F24 := fun_mk (st := st_is_unlike_paper) l24 c24 k24
  have b24 := F24.binds (ps := ["letters", "one", "other", "value"]) fun _ _ _ _ _ _ us hl => match us, hl with | [_, _, _, _], _ => rfl
  have F25 := fun_mk (st := st__law_sack) l25 c25 k25
  have b25 := F25.binds (ps := ["script", "spot"]) fun _ _ _ _ _ _ us hl => match us, hl with | [_, _], _ => rfl
  have F26 := fun_mk (st := st__law_drawn) l26 c26 k26
  have b26 := F26.binds (ps := ["sack", "total"]) fun _ _ _ _ _ _ us hl => match us, hl with | [_, _], _ => rfl
  have F27 := fun_mk (st := st__law_bare) l27 c27 k27
  have b27 := F27.binds (ps := ["row"]) fun _ _ _ _ _ _ us hl => match us, hl with | [_], _ => rfl
  have F28 := fun_mk (st := st__law_back) l28 c28 k28
  have b28 := F28.binds (ps := ["word"]) fun _ _ _ _ _ _ us hl => match us, hl with | [_], _ => rfl
  have F29 := fun_mk (st := st__law_core) l29 c29 k29
  have b29 := F29.binds (ps := ["word"]) fun _ _ _ _ _ _ us hl => match us, hl with | [_], _ => rfl
  have F30 := fun_mk (st := st__law_word) l30 c30 k30
  have b30 := F30.binds (ps := ["sack", "letters", "most"]) fun _ _ _ _ _ _ us hl => match us, hl with | [_, _, _], _ => rfl
  have F31 := fun_mk (st := st__law_powered) l31 c31 k31
  have b31 := F31.binds (ps := ["word", "many"]) fun _ _ _ _ _ _ us hl => match us, hl with | [_, _], _ => rfl
  have F32 := fun_mk (st := st__law_root) l32 c32 k32
  have b32 := F32.binds (ps := ["word"]) fun _ _ _ _ _ _ us hl => match us, hl with | [_], _ => rfl
  have F33 := fun_mk (st := st__law_is_word) l33 c33 k33
  have b33 := F33.binds (ps := ["letters", "value"]) fun _ _ _ _ _ _ us hl => match us, hl with | [_, _], _ => rfl
  have F34 := fun_mk (st := st__law_is_due) l34 c34 k34
  have b34 := F34.binds (ps := ["letters", "one", "other", "value"]) fun _ _ _ _ _ _ us hl => match us, hl with | [_, _, _, _], _ => rfl
  have F35 := fun_mk (st := st__law_near) l35 c35 k35
  have b35 := F35.binds (ps := ["one", "other", "told"]) fun _ _ _ _ _ _ us hl => match us, hl with | [_, _, _], _ => rfl
  have F36 := fun_mk (st := st__law_two) l36 c36 k36
  have b36 := F36.binds (ps := ["sack", "letters"]) fun _ _ _ _ _ _ us hl => match us, hl with | [_, _], _ => rfl
  have F37 := fun_mk (st := st__law_right) l37 c37 k37
  have b37 := F37.binds (ps := ["sack"]) fun _ _ _ _ _ _ us hl => match us, hl with | [_], _ => rfl
  have T : Txt K mg := ⟨⟨_, _, F1, PySem.W.mg_of X G a1, b1⟩,
    ⟨_, _, F2, PySem.W.mg_of X G a2, b2⟩,
    ⟨_, _, F3, PySem.W.mg_of X G a3, b3⟩,
    ⟨_, _, F4, PySem.W.mg_of X G a4, b4⟩,
    ⟨_, _, F5, PySem.W.mg_of X G a5, b5⟩,
    ⟨_, _, F6, PySem.W.mg_of X G a6, b6⟩,
    ⟨_, _, F7, PySem.W.mg_of X G a7, b7⟩,
    ⟨_, _, F8, PySem.W.mg_of X G a8, b8⟩,
    ⟨_, _, F9, PySem.W.mg_of X G a9, b9⟩,
    ⟨_, _, F10, PySem.W.mg_of X G a10, b10⟩,
    ⟨_, _, F11, PySem.W.mg_of X G a11, b11⟩,
    ⟨_, _, F12, PySem.W.mg_of X G a12, b12⟩,
    ⟨_, _, F13, PySem.W.mg_of X G a13, b13⟩,
    ⟨_, _, F14, PySem.W.mg_of X G a14, b14⟩,
    ⟨_, _, F15, PySem.W.mg_of X G a15, b15⟩,
    ⟨_, _, F16, PySem.W.mg_of X G a16, b16⟩,
    ⟨_, _, F17, PySem.W.mg_of X G a17⟩,
    ⟨_, _, F18, PySem.W.mg_of X G a18, b18⟩,
    ⟨_, _, F19, PySem.W.mg_of X G a19, b19⟩,
    ⟨_, _, F20, PySem.W.mg_of X G a20, b20⟩,
    ⟨_, _, F21, PySem.W.mg_of X G a21, b21⟩,
    ⟨_, _, F22, PySem.W.mg_of X G a22, b22⟩,
    ⟨_, _, F23, PySem.W.mg_of X G a23, b23⟩,
    ⟨_, _, F24, PySem.W.mg_of X G a24, b24⟩,
    ⟨_, _, F25, PySem.W.mg_of X G a25, b25⟩,
    ⟨_, _, F26, PySem.W.mg_of X G a26, b26⟩,
    ⟨_, _, F27, PySem.W.mg_of X G a27, b27⟩,
    ⟨_, _, F28, PySem.W.mg_of X G a28, b28⟩,
    ⟨_, _, F29, PySem.W.mg_of X G a29, b29⟩,
    ⟨_, _, F30, PySem.W.mg_of X G a30, b30⟩,
    ⟨_, _, F31, PySem.W.mg_of X G a31, b31⟩,
    ⟨_, _, F32, PySem.W.mg_of X G a32, b32⟩,
    ⟨_, _, F33, PySem.W.mg_of X G a33, b33⟩,
    ⟨_, _, F34, PySem.W.mg_of X G a34, b34⟩,
    ⟨_, _, F35, PySem.W.mg_of X G a35, b35⟩,
    ⟨_, _, F36, PySem.W.mg_of X G a36, b36⟩,
    ⟨_, _, F37, PySem.W.mg_of X G a37, b37⟩,
    ⟨_, PySem.W.mg_of X G q_MAX_LETTERS⟩,
    ⟨_, PySem.W.mg_of X G q_MAX_WORD⟩,
    ⟨_, PySem.W.mg_of X G q_MOST_POWER⟩,
    ⟨_, PySem.W.mg_of X G q_MOST_MULTIPLIED⟩,
    PySem.W.mg_none_of X G z_abs,
    PySem.W.mg_none_of X G z_all,
    PySem.W.mg_none_of X G z_bool,
    PySem.W.mg_none_of X G z_int,
    PySem.W.mg_none_of X G z_isinstance,
    PySem.W.mg_none_of X G z_len,
    PySem.W.mg_none_of X G z_list,
    PySem.W.mg_none_of X G z_max,
    PySem.W.mg_none_of X G z_min,
    PySem.W.mg_none_of X G z_range,
    PySem.W.mg_none_of X G z_str,
    PySem.W.mg_none_of X G z_tuple⟩
  exact ⟨PySem.W.fnOf "law" "law" (defArgs st_law) (defBody st_law) (defScope st_law) .none kV38 dc38 pm38 an38 cd38 ct38, fun s v => .of_eq rfl, fun base _ _ => ok_law (fun_mk (st := st_law) l38 c38 k38) T⟩
theorem walk {l : PySem.W.OpenLaw} {q : Program} {loose : List Str} {XP : (Str → Option Value) → Heap → Prop} {YP : World → Heap → Prop} {d : DefRec} {K : Params → PySem.W.Frag} (hn : l.most = some 63) (hdf : d.params.defaults = [])
    (hY : ∀ (w : World) (h : Heap), YP w h → (K w.params).In h)
    (F : ∀ (w : World) (mg : Str → Option Value) (fa : Addr) (h : Heap), (K w.params).In h → h.Ns mainGlobals mg → mg d.name = some (.ref fa) →
      ∃ fd : FuncData, (∀ (s : Shared) (u : Value), BindsTo s fd ⟨[u], []⟩ [("script", u)]) ∧ ∀ base : Heap, (K w.params).In base → base.Ns mainGlobals mg → FnOk l.prog w (K w.params) mg base CX0 8 fa fd ["script"] (spLaw (K w.params))) :
    PySem.W.WalkO q loose XP YP l.row.toRowW d [] (fun f vs => PySem.call f vs) :=
  L2.walk_of (n := 63) (k := 8) (x := "script") (CX := fun _ => CX0) (sp := fun w => spLaw (K w.params)) hn (by decide) hdf ⟨rfl, by decide, by decide⟩ hY F (fun _ _ a ns hl _ hS => ⟨a, ns, rfl, hS, hl, fun _ => rfl⟩) fun _ _ _ _ _ z => z
end Pr

open PySem PySem.W PyProof.Rows in
set_option maxRecDepth 100000 in
set_option maxHeartbeats 0 in
theorem PySem.Challenge.cw_noroadback_k01_whole_roots_and_words_tha_holds : PySem.Challenge.rw_noroadback_k01_whole_roots_and_words_tha.Holds := by
  w_on; o_law; k_head; (case hw => w_witness2)
  k_fill
  refine Pr.walk (l := PySem.Challenge.rw_noroadback_k01_whole_roots_and_words_tha) rfl rfl (fun w h Y => PySem.W.kIn_of Y) ?F
  case F =>
    intro w mg fa h KX G hmg
    refine' Pr.all_mk KX G hmg ?a1 ?l1 ?c1 ?k1 ?a2 ?l2 ?c2 ?k2 ?a3 ?l3 ?c3 ?k3 ?a4 ?l4 ?c4 ?k4 ?a5 ?l5 ?c5 ?k5 ?a6 ?l6 ?c6 ?k6 ?a7 ?l7 ?c7 ?k7 ?a8 ?l8 ?c8 ?k8 ?a9 ?l9 ?c9 ?k9 ?a10 ?l10 ?c10 ?k10 ?a11 ?l11 ?c11 ?k11 ?a12 ?l12 ?c12 ?k12 ?a13 ?l13 ?c13 ?k13 ?a14 ?l14 ?c14 ?k14 ?a15 ?l15 ?c15 ?k15 ?a16 ?l16 ?c16 ?k16 ?a17 ?l17 ?c17 ?k17 ?a18 ?l18 ?c18 ?k18 ?a19 ?l19 ?c19 ?k19 ?a20 ?l20 ?c20 ?k20 ?a21 ?l21 ?c21 ?k21 ?a22 ?l22 ?c22 ?k22 ?a23 ?l23 ?c23 ?k23 ?a24 ?l24 ?c24 ?k24 ?a25 ?l25 ?c25 ?k25 ?a26 ?l26 ?c26 ?k26 ?a27 ?l27 ?c27 ?k27 ?a28 ?l28 ?c28 ?k28 ?a29 ?l29 ?c29 ?k29 ?a30 ?l30 ?c30 ?k30 ?a31 ?l31 ?c31 ?k31 ?a32 ?l32 ?c32 ?k32 ?a33 ?l33 ?c33 ?k33 ?a34 ?l34 ?c34 ?k34 ?a35 ?l35 ?c35 ?k35 ?a36 ?l36 ?c36 ?k36 ?a37 ?l37 ?c37 ?k37 ?a38 ?l38 ?c38 ?k38 ?q_MAX_LETTERS ?q_MAX_WORD ?q_MOST_POWER ?q_MOST_MULTIPLIED ?z_abs ?z_all ?z_bool ?z_int ?z_isinstance ?z_len ?z_list ?z_max ?z_min ?z_range ?z_str ?z_tuple
    (case a1 => k_is)
    (case l1 => k_is)
    (case c1 => k_is)
    (case k1 => k_is)
    (case a2 => k_is)
    (case l2 => k_is)
    (case c2 => k_is)
    (case k2 => k_is)
    (case a3 => k_is)
    (case l3 => k_is)
    (case c3 => k_is)
    (case k3 => k_is)
    (case a4 => k_is)
    (case l4 => k_is)
    (case c4 => k_is)
    (case k4 => k_is)
    (case a5 => k_is)
    (case l5 => k_is)
    (case c5 => k_is)
    (case k5 => k_is)
    (case a6 => k_is)
    (case l6 => k_is)
    (case c6 => k_is)
    (case k6 => k_is)
    (case a7 => k_is)
    (case l7 => k_is)
    (case c7 => k_is)
    (case k7 => k_is)
    (case a8 => k_is)
    (case l8 => k_is)
    (case c8 => k_is)
    (case k8 => k_is)
    (case a9 => k_is)
    (case l9 => k_is)
    (case c9 => k_is)
    (case k9 => k_is)
    (case a10 => k_is)
    (case l10 => k_is)
    (case c10 => k_is)
    (case k10 => k_is)
    (case a11 => k_is)
    (case l11 => k_is)
    (case c11 => k_is)
    (case k11 => k_is)
    (case a12 => k_is)
    (case l12 => k_is)
    (case c12 => k_is)
    (case k12 => k_is)
    (case a13 => k_is)
    (case l13 => k_is)
    (case c13 => k_is)
    (case k13 => k_is)
    (case a14 => k_is)
    (case l14 => k_is)
    (case c14 => k_is)
    (case k14 => k_is)
    (case a15 => k_is)
    (case l15 => k_is)
    (case c15 => k_is)
    (case k15 => k_is)
    (case a16 => k_is)
    (case l16 => k_is)
    (case c16 => k_is)
    (case k16 => k_is)
    (case a17 => k_is)
    (case l17 => k_is)
    (case c17 => k_is)
    (case k17 => k_is)
    (case a18 => k_is)
    (case l18 => k_is)
    (case c18 => k_is)
    (case k18 => k_is)
    (case a19 => k_is)
    (case l19 => k_is)
    (case c19 => k_is)
    (case k19 => k_is)
    (case a20 => k_is)
    (case l20 => k_is)
    (case c20 => k_is)
    (case k20 => k_is)
    (case a21 => k_is)
    (case l21 => k_is)
    (case c21 => k_is)
    (case k21 => k_is)
    (case a22 => k_is)
    (case l22 => k_is)
    (case c22 => k_is)
    (case k22 => k_is)
    (case a23 => k_is)
    (case l23 => k_is)
    (case c23 => k_is)
    (case k23 => k_is)
    (case a24 => k_is)
    (case l24 => k_is)
    (case c24 => k_is)
    (case k24 => k_is)
    (case a25 => k_is)
    (case l25 => k_is)
    (case c25 => k_is)
    (case k25 => k_is)
    (case a26 => k_is)
    (case l26 => k_is)
    (case c26 => k_is)
    (case k26 => k_is)
    (case a27 => k_is)
    (case l27 => k_is)
    (case c27 => k_is)
    (case k27 => k_is)
    (case a28 => k_is)
    (case l28 => k_is)
    (case c28 => k_is)
    (case k28 => k_is)
    (case a29 => k_is)
    (case l29 => k_is)
    (case c29 => k_is)
    (case k29 => k_is)
    (case a30 => k_is)
    (case l30 => k_is)
    (case c30 => k_is)
    (case k30 => k_is)
    (case a31 => k_is)
    (case l31 => k_is)
    (case c31 => k_is)
    (case k31 => k_is)
    (case a32 => k_is)
    (case l32 => k_is)
    (case c32 => k_is)
    (case k32 => k_is)
    (case a33 => k_is)
    (case l33 => k_is)
    (case c33 => k_is)
    (case k33 => k_is)
    (case a34 => k_is)
    (case l34 => k_is)
    (case c34 => k_is)
    (case k34 => k_is)
    (case a35 => k_is)
    (case l35 => k_is)
    (case c35 => k_is)
    (case k35 => k_is)
    (case a36 => k_is)
    (case l36 => k_is)
    (case c36 => k_is)
    (case k36 => k_is)
    (case a37 => k_is)
    (case l37 => k_is)
    (case c37 => k_is)
    (case k37 => k_is)
    (case a38 => k_is)
    (case l38 => k_is)
    (case c38 => k_is)
    (case k38 => k_is)
    (case q_MAX_LETTERS => k_is)
    (case q_MAX_WORD => k_is)
    (case q_MOST_POWER => k_is)
    (case q_MOST_MULTIPLIED => k_is)
    (case z_abs => k_is)
    (case z_all => k_is)
    (case z_bool => k_is)
    (case z_int => k_is)
    (case z_isinstance => k_is)
    (case z_len => k_is)
    (case z_list => k_is)
    (case z_max => k_is)
    (case z_min => k_is)
    (case z_range => k_is)
    (case z_str => k_is)
    (case z_tuple => k_is)
