import PyProof.Rows.All
import Wide.All
import OpenK.AllK
import Wide.FinOn
import Lean
import PyProof.EqAt
import PyProof.EqKinds
import PyProof.TupleCall
import PyProof.NeKinds
import PyProof.StrLawsTight
import PyProof.Conv_int
import PyProof.StrLawsRepr
import PyProof.ReprStr
import KE.KSortTup
import KE.KRevSl
import PyProof.DictIter
import PyProof.DictValues
import PyProof.DictTruth
import PySem.Challenge.RW_haltline_k09_whole_first_come
set_option maxHeartbeats 4000000
open List(all_eq_true all_map any_cons any_map any_toArray append_assoc append_nil cons_append contains_iff_mem ext_getElem ext_getElem? filterMap_map filter_append filter_cons_of_neg filter_cons_of_pos filter_nil find?_cons flatMap_append flatMap_cons flatMap_singleton flatten_cons foldl_append getD_eq_getElem?_getD getElem?_eq_none getElem?_map getElem?_set getElem?_set_ne getElem?_set_self getElem?_zip_eq_some getElem_inj getElem_map getElem_mem getElem_of_mem getElem_range length_append length_cons length_filter_le length_map length_nil length_pos_iff length_range length_reverse length_set length_singleton length_take length_zip length_zipIdx lookup_cons map_append map_congr_left map_cons map_map map_nil map_set map_tail mem_append mem_append_left mem_append_right mem_cons mem_cons_self mem_filter mem_filterMap mem_flatMap mem_map mem_of_getElem? mem_range mem_singleton nodup_append nodup_cons nodup_iff_pairwise_ne nodup_nil not_mem_nil of_mem_zip pairwise_cons pairwise_map replicate replicate_succ reverse_cons set_set size_toArray sum_cons take_length zipIdx_map_snd zip_cons_cons zip_map zip_nil_left)
open Nat(le_add_right le_of_lt le_refl le_succ le_trans lt_irrefl lt_of_lt_of_le lt_succ_self ne_of_gt ne_of_lt zero_add zero_le)
open Bool(and_eq_true false_eq_true not_eq_true' not_not or_eq_true)
open Int(natCast_nonneg toNat_natCast)
open Array(length_toList toList)
open Option(bind_some getD_none map_some)
set_option Elab.async false
set_option linter.all false
set_option maxRecDepth 100000
set_option bootstrap.genMatcherCode false
set_option genSizeOf false
set_option compiler.extract_closed false
section
variable{P:Prop}{T0 T1 T2 T3 T4 T5 T6 T7 T8:Type}{A0 A1 A2 A3 A4 A5 A6 A7 A8 A9:Prop}{B0 B1 B2 B3 B4 B5 B6 B7 B8 B9:T0→Prop}{C0 C1 C2 C3 C4 C5 C6 C7 C8 C9:T0→T1→Prop}{D0 D1 D2 D3 D4 D5 D6 D7 D8 D9:T0→T1→T2→Prop}{E0 E1 E2 E3 E4 E5 E6 E7 E8 E9:T0→T1→T2→T3→Prop}{F0 F1 F2 F3 F4 F5 F6 F7 F8 F9:T0→T1→T2→T3→T4→Prop}{G0 G1 G2 G3 G4 G5 G6 G7 G8 G9:T0→T1→T2→T3→T4→T5→Prop}{H0 H1 H2 H3 H4 H5 H6 H7 H8 H9:T0→T1→T2→T3→T4→T5→T6→Prop}{I0 I1 I2 I3 I4 I5 I6 I7 I8 I9:T0→T1→T2→T3→T4→T5→T6→T7→Prop}{J0 J1 J2 J3 J4 J5 J6 J7 J8 J9:T0→T1→T2→T3→T4→T5→T6→T7→T8→Prop}
theorem bA (H:∃a b,C0 a b∧C1 a b∧C2 a b)(K:∀a b,C0 a b→C1 a b→C2 a b→P):P:=by obtain⟨a,b,c,d,e⟩:=H;exact K a b c d e
theorem cj (H:∃a,B0 a∧B1 a∧B2 a)(K:∀a,B0 a→B1 a→B2 a→P):P:=by obtain⟨a,b,c,d⟩:=H;exact K a b c d
theorem dR (a b)(c:C0 a b)(d:C1 a b)(e:C2 a b):∃a b,C0 a b∧C1 a b∧C2 a b:=⟨a,b,c,d,e⟩
theorem gW (a)(b:B0 a)(c:B1 a)(d:B2 a):∃a,B0 a∧B1 a∧B2 a:=⟨a,b,c,d⟩
theorem ja (H:∃a b c,D0 a b c∧D1 a b c∧D2 a b c∧D3 a b c)(K:∀a b c,D0 a b c→D1 a b c→D2 a b c→D3 a b c→P):P:=by obtain⟨a,b,c,d,e,f,g⟩:=H;exact K a b c d e f g
theorem jb (a b c)(d:D0 a b c)(e:D1 a b c)(f:D2 a b c)(g:D3 a b c):∃a b c,D0 a b c∧D1 a b c∧D2 a b c∧D3 a b c:=⟨a,b,c,d,e,f,g⟩
theorem mV (H:∃a b,C0 a b∧C1 a b)(K:∀a b,C0 a b→C1 a b→P):P:=by obtain⟨a,b,c,d⟩:=H;exact K a b c d
theorem nC (a b c)(d:D0 a b c)(e:D1 a b c)(f:D2 a b c)(g:D3 a b c)(h:D4 a b c):∃a b c,D0 a b c∧D1 a b c∧D2 a b c∧D3 a b c∧D4 a b c:=⟨a,b,c,d,e,f,g,h⟩
theorem pG (H:∃a b,C0 a b∧C1 a b∧C2 a b∧C3 a b)(K:∀a b,C0 a b→C1 a b→C2 a b→C3 a b→P):P:=by obtain⟨a,b,c,d,e,f⟩:=H;exact K a b c d e f
theorem pH (H:∃a b c d,E0 a b c d∧E1 a b c d∧E2 a b c d∧E3 a b c d)(K:∀a b c d,E0 a b c d→E1 a b c d→E2 a b c d→E3 a b c d→P):P:=by obtain⟨a,b,c,d,e,f,g,h⟩:=H;exact K a b c d e f g h
theorem ie (H:∃a b c,D0 a b c∧D1 a b c∧D2 a b c∧D3 a b c∧D4 a b c)(K:∀a b c,D0 a b c→D1 a b c→D2 a b c→D3 a b c→D4 a b c→P):P:=by obtain⟨a,b,c,d,e,f,g,h⟩:=H;exact K a b c d e f g h
theorem mE (H:A0∧A1∧A2∧A3)(K:A0→A1→A2→A3→P):P:=by obtain⟨a,b,c,d⟩:=H;exact K a b c d
theorem l8 (a b)(c:C0 a b)(d:C1 a b):∃a b,C0 a b∧C1 a b:=⟨a,b,c,d⟩
theorem l9 (a b)(c:C0 a b)(d:C1 a b)(e:C2 a b)(f:C3 a b):∃a b,C0 a b∧C1 a b∧C2 a b∧C3 a b:=⟨a,b,c,d,e,f⟩
theorem m9 (H:∃a b c,D0 a b c∧D1 a b c∧D2 a b c)(K:∀a b c,D0 a b c→D1 a b c→D2 a b c→P):P:=by obtain⟨a,b,c,d,e,f⟩:=H;exact K a b c d e f
theorem m_ (H:A0∧∃a b,C0 a b∧C1 a b∧C2 a b)(K:A0→∀a b,C0 a b→C1 a b→C2 a b→P):P:=by obtain⟨c,a,b,d,e,f⟩:=H;exact K c a b d e f
theorem m3 (a:A0)(b:A1)(c:A2)(d:A3):A0∧A1∧A2∧A3:=⟨a,b,c,d⟩
theorem oB (c:A0)(a b)(d:C0 a b)(e:C1 a b):A0∧∃a b,C0 a b∧C1 a b:=⟨c,a,b,d,e⟩
theorem oC (b:A0)(a)(c:B0 a)(d:B1 a):A0∧∃a,B0 a∧B1 a:=⟨b,a,c,d⟩
theorem oE (a b c d)(e:E0 a b c d)(f:E1 a b c d)(g:E2 a b c d)(h:E3 a b c d):∃a b c d,E0 a b c d∧E1 a b c d∧E2 a b c d∧E3 a b c d:=⟨a,b,c,d,e,f,g,h⟩
theorem pY (H:A0∧A1∧A2∧A3∧A4∧A5)(K:A0→A1→A2→A3→A4→A5→P):P:=by obtain⟨a,b,c,d,e,f⟩:=H;exact K a b c d e f
theorem sC (H:A0∧A1∧A2∧A3∧A4)(K:A0→A1→A2→A3→A4→P):P:=by obtain⟨a,b,c,d,e⟩:=H;exact K a b c d e
theorem rF (a)(d:B0 a)(b c)(e:D0 a b c):∃a,B0 a∧∃b c,D0 a b c:=⟨a,d,b,c,e⟩
theorem uC (H:A0∧∃a,B0 a∧B1 a)(K:A0→∀a,B0 a→B1 a→P):P:=by obtain⟨b,a,c,d⟩:=H;exact K b a c d
theorem uD (H:∃a,B0 a∧B1 a∧B2 a∧B3 a∧B4 a)(K:∀a,B0 a→B1 a→B2 a→B3 a→B4 a→P):P:=by obtain⟨a,b,c,d,e,f⟩:=H;exact K a b c d e f
theorem vW (H:A0∧A1∧∃a,B0 a∧∃b c d,E0 a b c d∧E1 a b c d)(K:A0→A1→∀a,B0 a→∀b c d,E0 a b c d→E1 a b c d→P):P:=by obtain⟨e,f,a,g,b,c,d,h,i⟩:=H;exact K e f a g b c d h i
theorem u9 (a:A0)(b:A1)(c:A2)(d:A3)(e:A4):A0∧A1∧A2∧A3∧A4:=⟨a,b,c,d,e⟩
theorem yJ (H:A0∧∃a b,C0 a b∧C1 a b)(K:A0→∀a b,C0 a b→C1 a b→P):P:=by obtain⟨c,a,b,d,e⟩:=H;exact K c a b d e
theorem yK (H:∃a b c,D0 a b c)(K:∀a b c,D0 a b c→P):P:=by obtain⟨a,b,c,d⟩:=H;exact K a b c d
theorem yL (H:∃a,B0 a∧B1 a∧∃b,C0 a b)(K:∀a,B0 a→B1 a→∀b,C0 a b→P):P:=by obtain⟨a,c,d,b,e⟩:=H;exact K a c d b e
theorem yM (H:A0∧A1∧∃a,B0 a∧B1 a)(K:A0→A1→∀a,B0 a→B1 a→P):P:=by obtain⟨b,c,a,d,e⟩:=H;exact K b c a d e
theorem yN (H:∃a b c d,E0 a b c d∧E1 a b c d∧E2 a b c d∧E3 a b c d∧E4 a b c d∧E5 a b c d∧E6 a b c d∧E7 a b c d∧E8 a b c d∧E9 a b c d)(K:∀a b c d,E0 a b c d→E1 a b c d→E2 a b c d→E3 a b c d→E4 a b c d→E5 a b c d→E6 a b c d→E7 a b c d→E8 a b c d→E9 a b c d→P):P:=by obtain⟨a,b,c,d,e,f,g,h,i,j,k,l,m,n⟩:=H;exact K a b c d e f g h i j k l m n
theorem yO (H:∃a b c d,E0 a b c d)(K:∀a b c d,E0 a b c d→P):P:=by obtain⟨a,b,c,d,e⟩:=H;exact K a b c d e
theorem xV (a b c)(d:D0 a b c)(e:D1 a b c):∃a b c,D0 a b c∧D1 a b c:=⟨a,b,c,d,e⟩
theorem xW (a b)(c:C0 a b)(d:C1 a b)(e:C2 a b)(f:C3 a b)(g:C4 a b):∃a b,C0 a b∧C1 a b∧C2 a b∧C3 a b∧C4 a b:=⟨a,b,c,d,e,f,g⟩
theorem Bm (H:∃a b c,D0 a b c∧D1 a b c)(K:∀a b c,D0 a b c→D1 a b c→P):P:=by obtain⟨a,b,c,d,e⟩:=H;exact K a b c d e
theorem zH (a)(b:B0 a)(c:B1 a)(d:B2 a)(e:B3 a):∃a,B0 a∧B1 a∧B2 a∧B3 a:=⟨a,b,c,d,e⟩
theorem zI (a b c d)(e:E0 a b c d):∃a b c d,E0 a b c d:=⟨a,b,c,d,e⟩
theorem DO (H:∃a b c d,E0 a b c d∧E1 a b c d∧E2 a b c d∧E3 a b c d∧E4 a b c d)(K:∀a b c d,E0 a b c d→E1 a b c d→E2 a b c d→E3 a b c d→E4 a b c d→P):P:=by obtain⟨a,b,c,d,e,f,g,h,i⟩:=H;exact K a b c d e f g h i
theorem DP (H:∃a b c d e f g h i,J0 a b c d e f g h i∧J1 a b c d e f g h i∧J2 a b c d e f g h i)(K:∀a b c d e f g h i,J0 a b c d e f g h i→J1 a b c d e f g h i→J2 a b c d e f g h i→P):P:=by obtain⟨a,b,c,d,e,f,g,h,i,j,k,l⟩:=H;exact K a b c d e f g h i j k l
theorem DR (H:∃a b c d e,F0 a b c d e)(K:∀a b c d e,F0 a b c d e→P):P:=by obtain⟨a,b,c,d,e,f⟩:=H;exact K a b c d e f
theorem DT (H:∃a b c d e f,G0 a b c d e f)(K:∀a b c d e f,G0 a b c d e f→P):P:=by obtain⟨a,b,c,d,e,f,g⟩:=H;exact K a b c d e f g
theorem Cw (a)(b:B0 a)(c:B1 a)(d:B2 a)(e:B3 a)(f:B4 a):∃a,B0 a∧B1 a∧B2 a∧B3 a∧B4 a:=⟨a,b,c,d,e,f⟩
theorem Cy (a b c d)(e:E0 a b c d)(f:E1 a b c d)(g:E2 a b c d)(h:E3 a b c d)(i:E4 a b c d):∃a b c d,E0 a b c d∧E1 a b c d∧E2 a b c d∧E3 a b c d∧E4 a b c d:=⟨a,b,c,d,e,f,g,h,i⟩
theorem Cz (a b c d)(e:E0 a b c d)(f:E1 a b c d)(g:E2 a b c d)(h:E3 a b c d)(i:E4 a b c d)(j:E5 a b c d):∃a b c d,E0 a b c d∧E1 a b c d∧E2 a b c d∧E3 a b c d∧E4 a b c d∧E5 a b c d:=⟨a,b,c,d,e,f,g,h,i,j⟩
theorem CA (a b)(d:C0 a b)(e:C1 a b)(f:C2 a b)(c)(g:D0 a b c):∃a b,C0 a b∧C1 a b∧C2 a b∧∃c,D0 a b c:=⟨a,b,d,e,f,c,g⟩
theorem CB (a b c d e)(f:F0 a b c d e):∃a b c d e,F0 a b c d e:=⟨a,b,c,d,e,f⟩
theorem CC (a b c d e f)(g:G0 a b c d e f):∃a b c d e f,G0 a b c d e f:=⟨a,b,c,d,e,f,g⟩
theorem GQ (H:∃a b c d,E0 a b c d∧E1 a b c d)(K:∀a b c d,E0 a b c d→E1 a b c d→P):P:=by obtain⟨a,b,c,d,e,f⟩:=H;exact K a b c d e f
theorem GR (H:∃a b,C0 a b∧C1 a b∧C2 a b∧C3 a b∧C4 a b)(K:∀a b,C0 a b→C1 a b→C2 a b→C3 a b→C4 a b→P):P:=by obtain⟨a,b,c,d,e,f,g⟩:=H;exact K a b c d e f g
theorem GS (H:A0∧A1∧∃a,B0 a∧∃b c d,E0 a b c d∧E1 a b c d∧E2 a b c d∧E3 a b c d∧E4 a b c d)(K:A0→A1→∀a,B0 a→∀b c d,E0 a b c d→E1 a b c d→E2 a b c d→E3 a b c d→E4 a b c d→P):P:=by obtain⟨e,f,a,g,b,c,d,h,i,j,k,l⟩:=H;exact K e f a g b c d h i j k l
theorem GT (H:∃a b c d e,F0 a b c d e∧F1 a b c d e∧F2 a b c d e∧F3 a b c d e∧F4 a b c d e∧F5 a b c d e)(K:∀a b c d e,F0 a b c d e→F1 a b c d e→F2 a b c d e→F3 a b c d e→F4 a b c d e→F5 a b c d e→P):P:=by obtain⟨a,b,c,d,e,f,g,h,i,j,k⟩:=H;exact K a b c d e f g h i j k
theorem GU (H:∃a,B0 a∧B1 a∧B2 a∧B3 a∧B4 a∧B5 a)(K:∀a,B0 a→B1 a→B2 a→B3 a→B4 a→B5 a→P):P:=by obtain⟨a,b,c,d,e,f,g⟩:=H;exact K a b c d e f g
theorem GV (H:∃a b,C0 a b∧C1 a b∧C2 a b∧C3 a b∧C4 a b∧C5 a b)(K:∀a b,C0 a b→C1 a b→C2 a b→C3 a b→C4 a b→C5 a b→P):P:=by obtain⟨a,b,c,d,e,f,g,h⟩:=H;exact K a b c d e f g h
theorem Fv (a b c)(d:D0 a b c):∃a b c,D0 a b c:=⟨a,b,c,d⟩
theorem Fw (a b)(c:C0 a b)(d:C1 a b)(e:C2 a b)(f:C3 a b)(g:C4 a b)(h:C5 a b):∃a b,C0 a b∧C1 a b∧C2 a b∧C3 a b∧C4 a b∧C5 a b:=⟨a,b,c,d,e,f,g,h⟩
theorem Fx (c:A0)(a b)(d:C0 a b)(e:C1 a b)(f:C2 a b):A0∧∃a b,C0 a b∧C1 a b∧C2 a b:=⟨c,a,b,d,e,f⟩
theorem Fy (a b c d e)(f:F0 a b c d e)(g:F1 a b c d e)(h:F2 a b c d e)(i:F3 a b c d e)(j:F4 a b c d e)(k:F5 a b c d e):∃a b c d e,F0 a b c d e∧F1 a b c d e∧F2 a b c d e∧F3 a b c d e∧F4 a b c d e∧F5 a b c d e:=⟨a,b,c,d,e,f,g,h,i,j,k⟩
theorem IK (H:A0∧A1∧∃a,B0 a∧∃b c d,E0 a b c d∧E1 a b c d∧E2 a b c d)(K:A0→A1→∀a,B0 a→∀b c d,E0 a b c d→E1 a b c d→E2 a b c d→P):P:=by obtain⟨e,f,a,g,b,c,d,h,i,j⟩:=H;exact K e f a g b c d h i j
theorem IL (H:∃a b c d,E0 a b c d∧E1 a b c d∧E2 a b c d∧E3 a b c d∧E4 a b c d∧E5 a b c d)(K:∀a b c d,E0 a b c d→E1 a b c d→E2 a b c d→E3 a b c d→E4 a b c d→E5 a b c d→P):P:=by obtain⟨a,b,c,d,e,f,g,h,i,j⟩:=H;exact K a b c d e f g h i j
theorem IM (H:∃a b,C0 a b∧C1 a b∧C2 a b∧∃c d,E0 a b c d∧∃e f,G0 a b c d e f∧G1 a b c d e f∧G2 a b c d e f)(K:∀a b,C0 a b→C1 a b→C2 a b→∀c d,E0 a b c d→∀e f,G0 a b c d e f→G1 a b c d e f→G2 a b c d e f→P):P:=by obtain⟨a,b,g,h,i,c,d,j,e,f,k,l,m⟩:=H;exact K a b g h i c d j e f k l m
theorem IN (H:∃a b c,D0 a b c∧D1 a b c∧D2 a b c∧D3 a b c∧D4 a b c∧D5 a b c∧D6 a b c∧D7 a b c)(K:∀a b c,D0 a b c→D1 a b c→D2 a b c→D3 a b c→D4 a b c→D5 a b c→D6 a b c→D7 a b c→P):P:=by obtain⟨a,b,c,d,e,f,g,h,i,j,k⟩:=H;exact K a b c d e f g h i j k
theorem IP (H:∃a,B0 a∧B1 a∧B2 a∧B3 a)(K:∀a,B0 a→B1 a→B2 a→B3 a→P):P:=by obtain⟨a,b,c,d,e⟩:=H;exact K a b c d e
theorem IQ (H:A0∧A1∧A2∧A3∧∃a,B0 a)(K:A0→A1→A2→A3→∀a,B0 a→P):P:=by obtain⟨b,c,d,e,a,f⟩:=H;exact K b c d e a f
theorem HB (e:A0)(f:A1)(a)(g:B0 a)(b c d)(h:E0 a b c d)(i:E1 a b c d):A0∧A1∧∃a,B0 a∧∃b c d,E0 a b c d∧E1 a b c d:=⟨e,f,a,g,b,c,d,h,i⟩
theorem HC (a)(c:B0 a)(d:B1 a)(b)(e:C0 a b):∃a,B0 a∧B1 a∧∃b,C0 a b:=⟨a,c,d,b,e⟩
theorem HD (a:A0)(b:A1)(c:A2)(d:A3)(e:A4)(f:A5):A0∧A1∧A2∧A3∧A4∧A5:=⟨a,b,c,d,e,f⟩
theorem HE (b:A0)(c:A1)(d:A2)(e:A3)(a)(f:B0 a)(g:B1 a)(h:B2 a):A0∧A1∧A2∧A3∧∃a,B0 a∧B1 a∧B2 a:=⟨b,c,d,e,a,f,g,h⟩
theorem HF (e:A0)(f:A1)(a b c d)(g:E0 a b c d)(h:E1 a b c d)(i:E2 a b c d)(j:E3 a b c d)(k:E4 a b c d):A0∧A1∧∃a b c d,E0 a b c d∧E1 a b c d∧E2 a b c d∧E3 a b c d∧E4 a b c d:=⟨e,f,a,b,c,d,g,h,i,j,k⟩
theorem HG (a b c)(d:D0 a b c)(e:D1 a b c)(f:D2 a b c):∃a b c,D0 a b c∧D1 a b c∧D2 a b c:=⟨a,b,c,d,e,f⟩
theorem HH (a b c)(d:D0 a b c)(e:D1 a b c)(f:D2 a b c)(g:D3 a b c)(h:D4 a b c)(i:D5 a b c):∃a b c,D0 a b c∧D1 a b c∧D2 a b c∧D3 a b c∧D4 a b c∧D5 a b c:=⟨a,b,c,d,e,f,g,h,i⟩
theorem HI (e:A0)(f:A1)(a)(g:B0 a)(b c d)(h:E0 a b c d)(i:E1 a b c d)(j:E2 a b c d)(k:E3 a b c d)(l:E4 a b c d):A0∧A1∧∃a,B0 a∧∃b c d,E0 a b c d∧E1 a b c d∧E2 a b c d∧E3 a b c d∧E4 a b c d:=⟨e,f,a,g,b,c,d,h,i,j,k,l⟩
theorem HJ (a)(f:B0 a)(b c d e)(g:F0 a b c d e)(h:F1 a b c d e)(i:F2 a b c d e)(j:F3 a b c d e)(k:F4 a b c d e)(l:F5 a b c d e)(m:F6 a b c d e):∃a,B0 a∧∃b c d e,F0 a b c d e∧F1 a b c d e∧F2 a b c d e∧F3 a b c d e∧F4 a b c d e∧F5 a b c d e∧F6 a b c d e:=⟨a,f,b,c,d,e,g,h,i,j,k,l,m⟩
theorem HK (a b)(e:C0 a b)(f:C1 a b)(g:C2 a b)(c d)(h:E0 a b c d)(i:E1 a b c d)(j:E2 a b c d):∃a b,C0 a b∧C1 a b∧C2 a b∧∃c d,E0 a b c d∧E1 a b c d∧E2 a b c d:=⟨a,b,e,f,g,c,d,h,i,j⟩
theorem HL (a b)(e:C0 a b)(f:C1 a b)(c d)(g:E0 a b c d)(h:E1 a b c d)(i:E2 a b c d):∃a b,C0 a b∧C1 a b∧∃c d,E0 a b c d∧E1 a b c d∧E2 a b c d:=⟨a,b,e,f,c,d,g,h,i⟩
theorem HM (a)(g:B0 a)(b c d e f)(h:G0 a b c d e f)(i:G1 a b c d e f)(j:G2 a b c d e f)(k:G3 a b c d e f):∃a,B0 a∧∃b c d e f,G0 a b c d e f∧G1 a b c d e f∧G2 a b c d e f∧G3 a b c d e f:=⟨a,g,b,c,d,e,f,h,i,j,k⟩
theorem HN (d:A0)(a)(e:B0 a)(b)(f:C0 a b)(g:C1 a b)(c)(h:D0 a b c):A0∧∃a,B0 a∧∃b,C0 a b∧C1 a b∧∃c,D0 a b c:=⟨d,a,e,b,f,g,c,h⟩
theorem HP (a)(b:B0 a)(c:B1 a)(d:B2 a)(e:B3 a)(f:B4 a)(g:B5 a):∃a,B0 a∧B1 a∧B2 a∧B3 a∧B4 a∧B5 a:=⟨a,b,c,d,e,f,g⟩
theorem HQ (b:A0)(c:A1)(d:A2)(e:A3)(a)(f:B0 a):A0∧A1∧A2∧A3∧∃a,B0 a:=⟨b,c,d,e,a,f⟩
theorem HR (a)(e:B0 a)(b c d)(f:E0 a b c d):∃a,B0 a∧∃b c d,E0 a b c d:=⟨a,e,b,c,d,f⟩
end
theorem cps {G:Prop}(h:∀P:Prop,(G→P)→P):G:=h G id
namespace L2
open PySem PySem.Spec PyProof.Rows
theorem cU {α:Type}{l:List α}{i:Nat}{a:α}(h:l[i]?=some a):∃h:i<l.length,l[i]=a:=List.getElem?_eq_some_iff.mp h
theorem cR {α:Type}{a b:α}{l:List α}(h:a∈l):a∈b::l:=.tail _ h
theorem cz {α:Type}{l:List α}{i:Nat}(h:i<l.length):l[i]?=some l[i]:=List.getElem?_eq_getElem h
noncomputable abbrev bF:=Sum Int Str
noncomputable def qp:bF→Value→Bool
 |.inl k,v=>Value.isInt k v
 |.inr x,v=>Value.isStrOf x v
noncomputable def Jq (w:World):bF→Int
 |.inl k=>hashInt k
 |.inr x=>hashStr w x
theorem bN:∀{k:bF} {v:Value},qp k v=true→(∃i t,k=Sum.inl i∧v=Value.int i t)∨(∃x t,k=Sum.inr x∧v=Value.str x t)
 |.inl i,v,h=>by
  obtain⟨t,e⟩:=Value.isInt_shape (k:=i) (v:=v) h;exact .inl (l8 i t rfl e)
 |.inr x,v,h=>by
  obtain⟨t,e⟩:=Value.isStrOf_shape (x:=x) (v:=v) h;exact .inr (l8 x t rfl e)
theorem x0 (i:Int)(t:Tok):qp (.inl i) (.int i t)=true:=by simp[qp,Value.isInt]
theorem x6 (x:Str)(t:Tok):qp (.inr x) (.str x t)=true:=by simp[qp,Value.isStrOf]
theorem FD (a b:Int):decide ((Sum.inl a:bF)=Sum.inl b)=(a==b):=by
 by_cases e:a=b
 ·subst e;simp
 ·have h:¬(Sum.inl a:bF)=Sum.inl b:=fun q=>e (Sum.inl.inj q);rw[decide_eq_false h];exact(beq_eq_false_iff_ne.mpr e).symm
theorem FG (a b:Str):decide ((Sum.inr a:bF)=Sum.inr b)=decide (a=b):=by
 by_cases e:a=b
 ·subst e;simp
 ·have h:¬(Sum.inr a:bF)=Sum.inr b:=fun q=>e (Sum.inr.inj q);rw[decide_eq_false h,decide_eq_false e]
theorem FE (a:Int)(b:Str):decide ((Sum.inl a:bF)=Sum.inr b)=false:=decide_eq_false (fun q=>nomatch q)
theorem FF (a:Str)(b:Int):decide ((Sum.inr a:bF)=Sum.inl b)=false:=decide_eq_false (fun q=>nomatch q)
noncomputable def bY (prog:Program)(w:World):PySem.KeyKind prog w bF where
 is:=qp
 hash:=Jq w
 inj:=fun v a b ha hb=>by
  rcases bN ha with ⟨i,t,rfl,rfl⟩|⟨x,t,rfl,rfl⟩
  ·rcases bN hb with ⟨j,u,rfl,e⟩|⟨y,u,rfl,e⟩
   ·injection e with e1 _;rw[e1]
   ·exact nomatch e
  ·rcases bN hb with ⟨j,u,rfl,e⟩|⟨y,u,rfl,e⟩
   ·exact nomatch e
   ·injection e with e1 _;rw[e1]
 byValue:=fun k v h=>by
  rcases bN h with ⟨i,t,rfl,rfl⟩|⟨x,t,rfl,rfl⟩ <;> rfl
 pyHash:=fun hv h=>by
  rcases bN hv with ⟨i,t,rfl,rfl⟩|⟨x,t,rfl,rfl⟩
  ·exact wpAny_pyHash_int h
  ·exact wpAny_pyHash_str h
 eqBool:=fun hu hv h=>by
  rcases bN hu with ⟨i,t,rfl,rfl⟩|⟨x,t,rfl,rfl⟩
  ·rcases bN hv with ⟨j,u,rfl,rfl⟩|⟨y,u,rfl,rfl⟩
   ·rw[FD]at h;exact wpAny_eqBool_int h
   ·rw[FE]at h;exact SeqAt.EqAt.int_str i t y u _ _ _ _ h
  ·rcases bN hv with ⟨j,u,rfl,rfl⟩|⟨y,u,rfl,rfl⟩
   ·rw[FF]at h;exact SeqAt.EqAt.str_int x t j u _ _ _ _ h
   ·rw[FG]at h;exact wpAny_eqBool_str h
 «strs»:=fun k x t v h=>by
  rcases bN h with ⟨i,u,rfl,e⟩|⟨y,u,rfl,e⟩
  ·exact nomatch e
  ·injection e with e1 _
   subst e1;cases v <;> rfl
theorem tW (prog:Program)(w:World)(i:Int)(t:Tok):(bY prog w).is (.inl i) (.int i t)=true:=x0 i t
theorem tX (prog:Program)(w:World)(x:Str)(t:Tok):(bY prog w).is (.inr x) (.str x t)=true:=x6 x t
inductive V where
 |non|bl (b:Bool)|int (i:Int)|str (x:Str)|byt (b:Array UInt8)|flt (b:UInt64)|ref (a:Addr)|ty (n:String)
 deriving DecidableEq
noncomputable def RelV:V→Value→Prop
 |.non,u=>u=Value.none
 |.bl b,u=>u=Value.bool b
 |.int i,u=>∃t,u=Value.int i t
 |.str x,u=>∃t,u=Value.str x t
 |.byt b,u=>∃t,u=Value.bytes b t
 |.flt b,u=>∃t,u=Value.float b t
 |.ref a,u=>u=Value.ref a
 |.ty n,u=>u=Value.type n
noncomputable abbrev Vals:List V→List Value→Prop:=Paired RelV
theorem Vals.length {xs:List V}{us:List Value}(r:Vals xs us):xs.length=us.length:=Paired.length r
theorem Vals.get:∀{xs:List V} {us:List Value} {i:Nat} {x:V},Vals xs us→xs[i]?=some x→∃u,us[i]?=some u∧RelV x u
 |_,_,_,_,.nil,e=>by simp at e
 |_,_,0,_,.cons r _,e=>by simp at e;subst e;exact⟨_,rfl,r⟩
 |_,_,i+1,x,.cons _ t,e=>by
  obtain⟨u,h1,h2⟩:=Vals.get (i:=i) (x:=x) t (by simpa using e);exact⟨u,by simpa using h1,h2⟩
theorem Vals.set {x:V}{u:Value}(r:RelV x u):∀{xs:List V} {us:List Value} (i:Nat),Vals xs us→Vals (xs.set i x) (us.set i u)
 |_,_,_,.nil=>.nil
 |_,_,0,.cons _ t=>.cons r t
 |_,_,i+1,.cons q t=>.cons q (Vals.set r i t)
theorem Vals.append:∀{xs ys:List V} {us ws:List Value},Vals xs us→Vals ys ws→Vals (xs ++ ys) (us ++ ws)
 |_,_,_,_,.nil,s=>s
 |_,_,_,_,.cons r t,s=>.cons r (Vals.append t s)
theorem Vals.take:∀{xs:List V} {us:List Value} (n:Nat),Vals xs us→Vals (xs.take n) (us.take n)
 |_,_,0,_=>.nil
 |_,_,_+1,.nil=>.nil
 |_,_,n+1,.cons r t=>.cons r (Vals.take n t)
theorem Vals.drop:∀{xs:List V} {us:List Value} (n:Nat),Vals xs us→Vals (xs.drop n) (us.drop n)
 |_,_,0,r=>r
 |_,_,_+1,.nil=>.nil
 |_,_,n+1,.cons _ t=>Vals.drop n t
noncomputable def RelO:Option V→Option Value→Prop
 |some v,some u=>RelV v u
 |none,none=>True
 |_,_=>False
noncomputable def KV {κ:Type}:List (κ×V)→List (κ×Value)→Prop:=Paired fun (p:κ×V) (q:κ×Value)=>p.1=q.1∧RelV p.2 q.2
noncomputable def kV:bF→V
 |.inl i=>.int i
 |.inr x=>.str x
inductive HO where
 /-- a list -/
 |lst (xs:List V)
 /-- a tuple (never changes) -/
 |tup (xs:List V)
 /-- a dict whose keys are ints and texts;one whose keys are tuples of ints and texts (the empty one is both) -/
 |dK (kvs:List (bF×V))|dT (kvs:List (List bF×V))
 /-- a set of ints:its members,its size -/
 |set (S:Int→Bool) (n:Nat)
 /-- an instance of the class at C,its dict at dx,its attributes -/
 |ins (C dx:Addr) (fs:List (Str×V))
 /-- the dict of the instance at x -/
 |own (x:Addr)
 /-- the dict of an exception -/
 |xd (fs:List (Str×V))
 /-- a bound method,f of x -/
 |met (f x:Addr)
 /-- a range object lo,lo+1,.. below hi -/
 |rng (lo hi:Int)
 /-- a thing that is known to the object (the script;a dict while a loop walks it):read,never written while it is so -/
 |frz (o:Obj) (u:HO)
 /-- a code object's table -/
 |tbl (ps:Array Value)
 /-- any other thing,by what is true of its one object (a def of one's own:SetO a S n:=HO.ext fun h=> ..) -/
 |ext (φ:Heap→Prop)
noncomputable abbrev Hp:=Addr→Option HO
noncomputable def bo (H:Hp)(a:Addr)(o:HO):Hp:=fun b=>if b=a then some o else H b
theorem au {H:Hp}{a:Addr}{o:HO}:bo H a o a=some o:=by unfold bo;rw[if_pos rfl]
theorem ak {H:Hp}{a b:Addr}{o:HO}(h:b≠a):bo H a o b=H b:=by unfold bo;rw[if_neg h]
theorem Ii {H:Hp}{a b:Addr}{o u:HO}(h:H a=some o)(h':H b=some u)(d:o≠u):a≠b:=by
 intro e;subst e;rw[h]at h';exact d (Option.some.inj h')
theorem aB {H:Hp}{a b:Addr}{o:HO}(h:H a=some o)(h':H b=none):a≠b:=by
 intro e;subst e;rw[h]at h';cases h'
section
variable(P:Program)(w:World)
noncomputable def ObjOk (H:Hp)(h:Heap)(a:Addr):HO→Prop
 |.lst xs=>xs.length≤sizeLine∧∃(its:List Value) (n:Nat),Vals xs its∧h.get? a=some {cls:=.type "list",data:=.seq its.toArray n}
 |.tup xs=>xs.length≤sizeLine∧∃its:List Value,Vals xs its∧IsTup h a its.toArray
 |.dK kvs=>kvs.length≤sizeLine∧(a==sysModules)=false∧∃vs,KV kvs vs∧h.DictOf (bY P w) a vs
 |.dT kvs=>kvs.length≤sizeLine∧(a==sysModules)=false∧∃xs:List (List bF×Addr×Value),
   Paired (fun (p:List bF×V) (q:List bF×Addr×Value)=>p.1=q.1∧H q.2.1=some (.tup (p.1.map kV))∧RelV p.2 q.2.2) kvs xs∧
   ∃o es ep,h.get? a=some o∧o.ExactDict∧o.data= .dict es ep∧es.toList=xs.map (entryOfKey (tupleKind (bY P w)))∧(xs.map (·.1)).Nodup
 |.set S n=>h.SetOf (intKind P w) a S n
 |.ins C dx fs=>H dx=some (.own a)∧fs.length≤1000∧dx≠a∧h.get? a=some (W.instObj C dx)∧
   ∃mA,h.Ns1 dx mA∧(∀f,RelO (fs.lookup f) (mA f))∧PySem.Within mA (fs.map (·.1))
 |.own _=>∃o,h.get? a=some o
 |.xd fs=>∃mA,h.Ns1 a mA∧∀f,RelO (fs.lookup f) (mA f)
 |.rng lo hi=>∃t u v,h.get? a=some {cls:=.type "range",data:=.fields #[.int lo t,.int hi u,.int 1 v]}
 |.frz o u=>h.get? a=some o∧ObjOk H h a u
 |.tbl ps=>h.get? a=some {cls:=.none,data:=.fields ps}
 |.met f x=>h.get? a=some (W.methodObj (.ref f) (.ref x))
 |.ext φ=>φ h∧(∃o,h.get? a=some o)∧∀h1 h2:Heap,φ h1→(∀o,h1.get? a=some o→h2.get? a=some o)→φ h2
noncomputable def HOk (H:Hp)(h:Heap):Prop:=∀a o,H a=some o→ObjOk P w H h a o
end
section
variable{P:Program}{w:World}{H H':Hp}{h h':Heap}{a:Addr}{o:HO}
theorem ObjOk.lt (x:ObjOk P w H h a o):a<h.objs.size:=by
 cases o with
 |lst xs=>refine yJ (x) fun _ _ _ _ e=>?_;exact Heap.lt_size e
 |tup xs=>refine uC (x) fun _ _ _ p=>?_;exact p.lt
 |dK kvs=>refine vW (x) fun _ _ _ _ o _ _ e _=>?_;exact Heap.lt_size e
 |dT kvs=>refine vW (x) fun _ _ _ _ o _ _ e _=>?_;exact Heap.lt_size e
 |set S n=>refine GQ (x) fun o _ _ _ e _=>?_;exact Heap.lt_size e
 |ins C dx fs=>refine sC (x) fun _ _ _ e _=>?_;exact Heap.lt_size e
 |own y=>obtain⟨_,e⟩:=x;exact Heap.lt_size e
 |xd fs=>obtain⟨_,⟨_,_,_,e,_⟩,_⟩:=x;exact Heap.lt_size e
 |rng lo hi=>refine yK (x) fun _ _ _ e=>?_;exact Heap.lt_size e
 |frz ob u=>obtain⟨e,_⟩:=x;exact Heap.lt_size e
 |tbl ps=>exact Heap.lt_size (show h.get? a=some _ from x)
 |met f y=>exact Heap.lt_size (show h.get? a=some _ from x)
 |ext φ=>obtain⟨_,⟨_,e⟩,_⟩:=x;exact Heap.lt_size e
theorem Paired.mapP {α β:Type}{F G:α→β→Prop}:∀{l₁:List α} {l₂:List β},Paired F l₁ l₂→(∀a b,F a b→G a b)→Paired G l₁ l₂
 |_,_,.nil,_=>.nil
 |_,_,.cons r t,f=>.cons (f _ _ r) (Paired.mapP t f)
theorem ObjOk.stay (x:ObjOk P w H h a o)(k:∀b u,(b=a∨H b=some (.own a))→h.get? b=some u→h'.get? b=some u)
  (ho:∀b,H b=some (.own a)→H' b=some (.own a)) (ht:∀b xs,H b=some (.tup xs)→H' b=some (.tup xs)):ObjOk P w H' h' a o:=by
 induction o with
 |lst xs=>refine yJ (x) fun z its n r e=>?_;exact(oB z its n r (k _ _ (.inl rfl) e))
 |tup xs=>obtain⟨z,its,r,g,e,c⟩:=x;exact⟨z,its,r,g,k _ _ (.inl rfl) e,c⟩
 |dK kvs=>refine vW (x) fun z y vs r g j i e c=>?_;exact(HB z y vs r g j i (k _ _ (.inl rfl) e) c)
 |dT kvs=>
  refine vW (x) fun z y xs r g j i e c=>?_;exact(HB z y xs (Paired.mapP r fun p q z=>⟨z.1,ht _ _ z.2.1,z.2.2⟩) g j i (k _ _ (.inl rfl) e) c)
 |set S n=>refine GQ (x) fun g j i t e c=>?_;exact⟨g,j,i,t,k _ _ (.inl rfl) e,c⟩
 |ins C dx fs=>
  obtain⟨d,z,ne,e,mA,⟨od,j,i,e2,c⟩,r⟩:=x;exact⟨ho _ d,z,ne,k _ _ (.inl rfl) e,mA,(xV od j i (k _ _ (.inr d) e2) c),r⟩
 |own y=>obtain⟨g,e⟩:=x;exact⟨g,k _ _ (.inl rfl) e⟩
 |xd fs=>obtain⟨mA,⟨od,j,i,e,c⟩,r⟩:=x;exact⟨mA,(xV od j i (k _ _ (.inl rfl) e) c),r⟩
 |rng lo hi=>refine yK (x) fun t u v e=>?_;exact(Fv t u v (k _ _ (.inl rfl) e))
 |frz g u ih=>obtain⟨e,q⟩:=x;exact⟨k _ _ (.inl rfl) e,ih q⟩
 |tbl ps=>
  have e:h.get? a=some {cls:=.none,data:=.fields ps}:=x;show h'.get? a=some {cls:=.none,data:=.fields ps};exact k a _ (.inl rfl) e
 |met f y=>
  have e:h.get? a=some (W.methodObj (.ref f) (.ref y)):=x;show h'.get? a=some (W.methodObj (.ref f) (.ref y));exact k a _ (.inl rfl) e
 |ext φ=>obtain⟨p,⟨o,e⟩,st⟩:=x;exact⟨st _ _ p fun o q=>k _ _ (.inl rfl) q,⟨o,k _ _ (.inl rfl) e⟩,st⟩
theorem HOk.lt (x:HOk P w H h)(e:H a=some o):a<h.objs.size:=(x a o e).lt
theorem HOk.fresh (x:HOk P w H h)(e:h.objs.size≤a):H a=none:=by
 cases q:H a with
 |none=>rfl
 |some u=>exact absurd (lt_of_lt_of_le (x.lt q) e) (lt_irrefl _)
theorem HOk.kept (x:HOk P w H h)(k:∀b u,h.get? b=some u→h'.get? b=some u):HOk P w H h':=fun a o e=>
 (x a o e).stay (fun b u _ q=>k b u q) (fun _ q=>q) fun _ _ q=>q
theorem HOk.laid (x:HOk P w H h)(k:∀b u,h.get? b=some u→h'.get? b=some u)(hp:h.objs.size≤a)(new:ObjOk P w (bo H a o) h' a o):HOk P w (bo H a o) h':=fun b u e=>by
 have hn:=x.fresh hp;by_cases hb:b=a
 ·subst hb;rw[au]at e;cases e;exact new
 ·rw[ak hb]at e;exact(x b u e).stay (fun c v _ q=>k c v q) (fun c q=>by rw[ak (aB q hn)];exact q) fun c xs q=>by rw[ak (aB q hn)];exact q
end
noncomputable def Rd (H:Hp)(a:Addr)(u:HO):Prop:=H a=some u∨∃o,H a=some (.frz o u)
theorem Rd.ok {P:Program}{w:World}{H:Hp}{h:Heap}{a:Addr}{u:HO}(r:Rd H a u)(x:HOk P w H h):ObjOk P w H h a u:=by
 rcases r with r|⟨o,r⟩
 ·exact x a u r
 ·obtain⟨_,q⟩:=x a _ r;exact q
noncomputable def Hb:Option HO→Prop
 |some (.lst _)=>True
 |some (.dK _)=>True
 |some (.dT _)=>True
 |some (.set _ _)=>True
 |some (.ins _ _ _)=>True
 |some (.ext _)=>True
 |_=>False
section
variable{P:Program}{w:World}{H:Hp}{h h':Heap}{x e:Addr}{o':HO}
theorem HOk.write (ok:HOk P w H h)(mu:Hb (H x))(he:e=x∨H e=some (.own x))(k:∀b u,b≠e→h.get? b=some u→h'.get? b=some u)(heo:∃u,h'.get? e=some u)
  (new:ObjOk P w (bo H x o') h' x o'):HOk P w (bo H x o') h':=fun b u q=>by
 have nown:∀c y,H c=some (.own y)→c≠x:=fun c y r z=>by subst z;rw[r]at mu;exact mu
 have ntup:∀c xs,H c=some (.tup xs)→c≠x:=fun c xs r z=>by subst z;rw[r]at mu;exact mu
 by_cases hb:b=x
 ·subst hb;rw[au]at q;cases q;exact new
 ·rw[ak hb]at q;by_cases d:b=e
  ·have q':H b=some (.own x):=by
    rcases he with z|z
    ·exact absurd (d.trans z) hb
    ·rw[d];exact z
   rw[q]at q';cases q';obtain⟨v,hv⟩:=heo;exact⟨v,by rw[d];exact hv⟩
  ·refine(ok b u q).stay (fun c v hc r=>k c v ?_ r) (fun c r=>by rw[ak (nown c b r)];exact r) fun c xs r=>by rw[ak (ntup c xs r)];exact r
   rcases hc with rfl|hc
   ·exact d
   ·rintro rfl
    rcases he with z|z
    ·exact nown c b hc z
    ·rw[hc]at z;cases z;exact hb rfl
end
structure Un (fs ex:List Addr)(H H':Hp)(h h':Heap):Prop where
 keep:∀b o,h.get? b=some o→H b=none→b∉fs→b∉ex→h'.get? b=some o
 slot:∀b o,h.get? b=some o→H b=none→b∈fs→b∉ex→∃sl,h'.get? b=some {o with slots:=sl}
 free:∀b o,h.get? b=some o→H b=none→b∉ex→H' b=none
 there:∀b o,h.get? b=some o→b∉ex→∃o',h'.get? b=some o'
 tups:∀b xs,H b=some (.tup xs)→H' b=some (.tup xs)
 frzs:∀b o u,H b=some (.frz o u)→H' b=some (.frz o u)
 tbls:∀b ps,H b=some (.tbl ps)→∃more,H' b=some (.tbl (ps ++ more))
section
variable{fs fs' ex ex':List Addr}{H H1 H2:Hp}{h h1 h2 h':Heap}{a x e:Addr}{o:HO}
theorem Un.any (u:Un fs ex H H1 h h1){b:Addr}{ob:Obj}(q:h.get? b=some ob)(n:H b=none)(hx:b∉ex):∃sl,h1.get? b=some {ob with slots:=sl}:=by
 by_cases hb:b∈fs
 ·exact u.slot b ob q n hb hx
 ·exact⟨ob.slots,u.keep b ob q n hb hx⟩
theorem Un.kept (k:∀b u,h.get? b=some u→h'.get? b=some u):Un fs ex H H h h':=
 ⟨fun b ob q _ _ _=>k b ob q,fun b ob q _ _ _=>⟨ob.slots,k b ob q⟩,fun _ _ _ n _=>n,fun b ob q _=>⟨ob,k b ob q⟩,fun _ _ q=>q,fun _ _ _ q=>q,fun _ ps q=>⟨#[],by rw[q];simp⟩⟩
theorem Un.refl:Un fs ex H H h h:=Un.kept fun _ _ q=>q
theorem Un.laid (k:∀b u,h.get? b=some u→h'.get? b=some u)(hp:h.objs.size≤a)(hn:H a=none):Un fs ex H (bo H a o) h h' where
 keep:=fun b u q _ _ _=>k b u q
 slot:=fun b u q _ _ _=>⟨u.slots,k b u q⟩
 free:=fun b u q n _=>by rw[ak (ne_of_lt (lt_of_lt_of_le (Heap.lt_size q) hp))];exact n
 there:=fun b u q _=>⟨u,k b u q⟩
 tups:=fun b xs q=>by rw[ak (aB q hn)];exact q
 frzs:=fun b u xs q=>by rw[ak (aB q hn)];exact q
 tbls:=fun b ps q=>⟨#[],by rw[ak (aB q hn),q];simp⟩
theorem Un.write (mu:Hb (H x))(he:e=x∨H e=some (.own x))(k:∀b u,b≠e→h.get? b=some u→h'.get? b=some u)(heo:∃u,h'.get? e=some u):Un fs ex H (bo H x o) h h':=by
 have hx:∀b,H b=none→b≠x:=fun b n z=>by subst z;rw[n]at mu;exact mu
 have hb:∀b,H b=none→b≠e:=fun b n z=>by
  subst z
  rcases he with r|r
  ·exact hx b n r
  ·rw[n]at r;cases r
 have hm:∀b u,H b=some u→¬Hb (some u)→b≠x:=fun b u q nm z=>by subst z;rw[q]at mu;exact nm mu
 refine⟨fun b u q n _ _=>k b u (hb b n) q,fun b u q n _ _=>⟨u.slots,k b u (hb b n) q⟩,fun b u q n _=>by rw[ak (hx b n)];exact n,fun b u q _=>?_,
  fun b xs q=>by rw[ak (hm b _ q fun z=>z)];exact q,fun b u xs q=>by rw[ak (hm b _ q fun z=>z)];exact q,fun b ps q=>⟨#[],by rw[ak (hm b _ q fun z=>z),q];simp⟩⟩
 by_cases hbe:b=e
 ·subst hbe;exact heo
 ·exact⟨u,k b u hbe q⟩
end
noncomputable def IY (h:Heap)(H:Hp):List Addr:=(List.range h.objs.size).filter fun a=>(H a).isSome
noncomputable def rq (h:Heap)(H:Hp):Heap:=W.hideAll h (IY h H)
theorem xS (h:Heap)(H:Hp):(rq h H).objs.size=h.objs.size:=W.hideAll_size _ _
theorem zD {h:Heap}{H:Hp}{b:Addr}{o:Obj}(e:h.get? b=some o)(n:H b=none):(rq h H).get? b=some o:=
 W.hideAll_get _ e fun hm=>by
  have q:(H b).isSome=true:=(mem_filter.mp hm).2;rw[n]at q;simp at q
theorem CH {h:Heap}{H:Hp}{b:Addr}{o:Obj}(e:(rq h H).get? b=some o):h.get? b=some o∧H b=none:=by
 have e':h.get? b=some o:=W.of_hideAll (IY h H) e;refine⟨e',?_⟩;cases q:H b with
 |none=>rfl
 |some x=>
  have hm:b∈IY h H:=mem_filter.mpr ⟨mem_range.mpr (Heap.lt_size e'),by simp[q]⟩;have z:(rq h H).get? b=none:=W.hideAll_none (IY h H) hm;rw[z]at e;cases e
structure Mod (K:W.Frag)(mg:Str→Option Value)(base:Heap):Prop where
 kin:K.In base
 glob:base.Ns mainGlobals mg
 blt:∃mb,base.Ns builtinsNs mb∧∀x:Str,x≠ "__name__" →mb x=bootBuiltins x
 nolimit:base.NoLimit
structure Cx where
 prog:Program
 w:World
 K:W.Frag
 mg:Str→Option Value
 base:Heap
 A:Around
 N:List Str
 s₀:Shared
 H₀:Hp
 env:Env
 outer:List Env
 stack:List Env
 ex:List Addr
 fn:Str→Bool
 calm:Bool
 pn:List (Addr×Obj)
 xe:Value→Shared→Prop
noncomputable def kz (l:List Env):List Addr:=l.filterMap (·.frame)
noncomputable abbrev Cx.fs (X:Cx):List Addr:=kz X.outer
noncomputable def yP (sc:Scope)(x:Str):Prop:=sc.names.lookup x=some .local∨sc.names.lookup x=some .cell∨sc.names.lookup x=some .free
noncomputable def Bs (sc:Scope)(x:Str):Prop:=sc.names.lookup x=some .local∨sc.names.lookup x=some .cell
noncomputable def Jc (env:Env)(h:Heap)(m:Str→Option Value)(x:Str)(u:Value):Prop:=
 (env.kindOf x=some .local∧m x=some u)∨((env.kindOf x=some .cell∨env.kindOf x=some .free)∧∃c,env.cells.lookup x=some c∧h.IsCell c (some u))
structure Cx.Ok (X:Cx):Prop where
 mod:Mod X.K X.mg X.base
 kind:X.env.scope.kind= .function
 glob:X.env.globals=mainGlobals
 blt:X.env.builtins=builtinsNs
 above:X.s₀.heap.objs.size≤X.env.locals
 inj:∀x y c,X.env.cells.lookup x=some c→X.env.cells.lookup y=some c→x=y
 has:∀x,(X.env.kindOf x=some .cell∨X.env.kindOf x=some .free)→∃c,X.env.cells.lookup x=some c
 cab:∀x c,X.fn x=true→X.env.cells.lookup x=some c→X.s₀.heap.objs.size≤c
 hd:X.calm=true→X.A.handled=none
 frames:X.A.frames=some X.stack
 stk:X.stack=X.outer∨(X.stack=X.env::X.outer∧X.env.frame=some X.env.locals)
 exf:∀b∈X.ex,b≠X.env.locals∧∀x c,X.env.cells.lookup x=some c→c≠b
 bs:∀b o,X.base.get? b=some o→X.s₀.heap.get? b=some o∧X.H₀ b=none
 bsz:X.base.objs.size≤X.s₀.heap.objs.size
 noex:∀b o,X.base.get? b=some o→b∉X.ex
 exfs:∀b∈X.ex,b∉X.fs
 funs:X.s₀.heap.FunFrames X.base X.outer
 frf:∀b∈X.fs,X.H₀ b=none
structure Inv (X:Cx)(pins:List (Addr×Obj))(σ:List (Option V))(H:Hp)(s:Shared):Prop where
 ok:X.Ok
 os:s.os=X.s₀.os
 bare:AllBare s.gens
 base:Un X.fs X.ex X.H₀ H X.s₀.heap s.heap
 loc:∃m,s.heap.Ns X.env.locals m∧∀(i:Nat) (x:Str) (v:V),X.N[i]?=some x→σ[i]?=some (some v)→yP X.env.scope x→∃u,RelV v u∧Jc X.env s.heap m x u
 cell:∀x c,X.env.cells.lookup x=some c→∃v,s.heap.IsCell c v
 free:H X.env.locals=none
 freeC:∀x c,X.env.cells.lookup x=some c→H c=none
 pin:∀p∈X.pn ++ pins,s.heap.get? p.1=some p.2∧H p.1=none∧p.1≠X.env.locals∧p.1∉X.fs∧∀v,p.2.data≠ .cell v
 hok:HOk X.prog X.w H s.heap
 len:σ.length=X.N.length
section
variable{X:Cx}{pins:List (Addr×Obj)}{σ:List (Option V)}{H H':Hp}{s:Shared}{h':Heap}
theorem Cx.Ok.nofr (ok:X.Ok){b:Addr}{o:Obj}(e:X.base.get? b=some o):b∉X.fs:=fun hb=>by
 have:=(ok.funs.mem hb).1;rw[e]at this;cases this
theorem Inv.bs (I:Inv X pins σ H s):∀b o,X.base.get? b=some o→s.heap.get? b=some o∧H b=none:=fun b o e=>
 ⟨I.base.keep b o (I.ok.bs b o e).1 (I.ok.bs b o e).2 (I.ok.nofr e) (I.ok.noex b o e),I.base.free b o (I.ok.bs b o e).1 (I.ok.bs b o e).2 (I.ok.noex b o e)⟩
theorem Inv.bk (I:Inv X pins σ H s):∀b o,X.base.get? b=some o→s.heap.get? b=some o:=fun b o e=>(I.bs b o e).1
theorem Inv.mod (I:Inv X pins σ H s):Mod X.K X.mg X.base:=I.ok.mod
theorem Inv.kIn (I:Inv X pins σ H s):X.K.In s.heap:=I.ok.mod.kin.keeps I.bk
theorem Inv.lt (I:Inv X pins σ H s):X.env.locals<s.heap.objs.size:=let ⟨_,hn,_⟩:=I.loc;hn.lt
theorem Inv.sz (I:Inv X pins σ H s):X.s₀.heap.objs.size≤s.heap.objs.size:=le_trans I.ok.above (le_of_lt I.lt)
theorem Inv.nofs (I:Inv X pins σ H s){a:Addr}(h:s.heap.objs.size≤a):a∉X.fs:=fun hb=>by
 refine uC (I.ok.funs.mem hb) fun _ o ho _=>?_;exact absurd (lt_of_lt_of_le (Heap.lt_size ho) (le_trans I.sz h)) (lt_irrefl _)
theorem Inv.cne (I:Inv X pins σ H s):∀x c,X.env.cells.lookup x=some c→c≠X.env.locals:=fun x c e z=>by
 refine cps fun PP kP=>?_;refine mV (I.cell x c e) fun v o ho hd=>?_;obtain⟨m,⟨o',es,ep,ho',hd',_⟩,_⟩:=I.loc;refine kP ?_;clear kP PP;rw[z,ho']at ho;cases ho;rw[hd']at hd;cases hd
theorem Inv.funs (I:Inv X pins σ H s):s.heap.FunFrames X.base X.outer:=by
 have all:∀(l:List Env),(∀b∈kz l,b∈X.fs)→X.s₀.heap.FunFrames X.base l→s.heap.FunFrames X.base l:=by
  intro l
  induction l with
  |nil=>intro _ _;trivial
  |cons env r ih=>
   intro hs hl;refine cps fun PP kP=>?_;obtain⟨hk,⟨L,o,hf,hn,ho,hd⟩,hr⟩:=hl;have hL:L∈X.fs:=hs L (by unfold kz;rw[List.filterMap_cons,hf];exact mem_cons_self);obtain⟨sl,e⟩:=I.base.slot L o ho (I.ok.frf L hL) hL fun z=>I.ok.exfs L z hL;refine kP ?_;clear kP PP;exact⟨hk,(l9 L _ hf hn e hd),ih (fun b hb=>hs b (by unfold kz;rw[List.filterMap_cons,hf];exact cR hb)) hr⟩
 exact all X.outer (fun _ hb=>hb) I.ok.funs
theorem Inv.stack (I:Inv X pins σ H s):s.heap.FunFrames X.base X.stack:=by
 rcases I.ok.stk with e|⟨e,hf⟩
 ·rw[e];exact I.funs
 ·rw[e];obtain⟨m,hn,_⟩:=I.loc;refine .cons (by rw[I.ok.kind];decide) hf hn ?_ I.funs;exact Heap.get?_none_of_le (le_trans I.ok.bsz I.ok.above)
theorem Inv.stkSub (I:Inv X pins σ H s):∀b∈kz X.stack,b∈X.env.locals::X.fs:=fun b hb=>by
 rcases I.ok.stk with e|⟨e,hf⟩
 ·rw[e]at hb;exact cR hb
 ·rw[e]at hb;unfold kz at hb;rw[List.filterMap_cons,hf]at hb;exact hb
theorem Inv.stkFree (I:Inv X pins σ H s):∀b∈kz X.stack,H b=none:=fun b hb=>by
 rcases mem_cons.mp (I.stkSub b hb) with e|hb
 ·rw[e];exact I.free
 ·refine uC (I.ok.funs.mem hb) fun _ o ho _=>?_;exact I.base.free b o ho (I.ok.frf b hb) fun z=>I.ok.exfs b z hb
theorem Inv.step {g':Array GenState}{t':Nat}{d':Drawn}{ch:List Addr}(I:Inv X pins σ H s)
  (hch:∀b∈ch,(b∈X.ex∨X.s₀.heap.objs.size≤b)∧b≠X.env.locals∧(∀x c,X.env.cells.lookup x=some c→c≠b)∧∀p∈X.pn ++ pins,p.1≠b)
  (keep:∀b o,b≠X.env.locals→b∉X.fs→b∉ch→s.heap.get? b=some o→H b=none→h'.get? b=some o)
  (slot:∀b o,b≠X.env.locals→b∈X.fs→b∉ch→s.heap.get? b=some o→H b=none→∃sl,h'.get? b=some {o with slots:=sl}) (free:∀b o,b∉ch→s.heap.get? b=some o→H b=none→H' b=none)
  (there:∀b o,b∉ch→s.heap.get? b=some o→∃o',h'.get? b=some o')
  (tups:∀b xs,H b=some (.tup xs)→H' b=some (.tup xs)) (frzs:∀b o u,H b=some (.frz o u)→H' b=some (.frz o u)) (tbls:∀b ps,H b=some (.tbl ps)→∃more,H' b=some (.tbl (ps ++ more)))
  (ns:∀m,s.heap.Ns X.env.locals m→h'.Ns X.env.locals m) (hok:HOk X.prog X.w H' h') (hg:AllBare g') :
  Inv X pins σ H' {s with heap:=h',gens:=g',drawn:=d',toks:=t'}:=by
 have neL:∀b o,X.s₀.heap.get? b=some o→b≠X.env.locals:=fun b o e=>ne_of_lt (lt_of_lt_of_le (Heap.lt_size e) I.ok.above);have t:∀b o,X.s₀.heap.get? b=some o→b∉X.ex→b∉ch:=fun b o e f hb=>by
  rcases (hch b hb).1 with z|z
  ·exact f z
  ·exact absurd (lt_of_lt_of_le (Heap.lt_size e) z) (lt_irrefl _)
 have h:∀x c,X.env.cells.lookup x=some c→∀v,s.heap.IsCell c v→h'.IsCell c v:=fun x c e v hZ48=>by
  obtain⟨o,ho,hd⟩:=hZ48;have g:c∉ch:=fun z=>(hch c z).2.2.1 x c e rfl;by_cases hc:c∈X.fs
  ·obtain⟨sl,q⟩:=slot c o (I.cne x c e) hc g ho (I.freeC x c e);exact⟨_,q,hd⟩
  ·exact⟨o,keep c o (I.cne x c e) hc g ho (I.freeC x c e),hd⟩
 refine⟨I.ok,I.os,hg,⟨fun b o e n hb f=>?_,fun b o e n hb f=>?_,fun b o e n f=>?_,fun b o e f=>?_,fun b xs e=>tups b xs (I.base.tups b xs e),fun b o xs e=>frzs b o xs (I.base.frzs b o xs e),fun b ps e=>?_⟩,?_,fun x c e=>?_,?_,fun x c e=>?_,fun p hp=>?_,hok,I.len⟩
 ·exact keep b o (neL b o e) hb (t b o e f) (I.base.keep b o e n hb f) (I.base.free b o e n f)
 ·obtain⟨sl,j⟩:=I.base.slot b o e n hb f;obtain⟨sl',e2⟩:=slot b _ (neL b o e) hb (t b o e f) j (I.base.free b o e n f);exact⟨sl',e2⟩
 ·obtain⟨o',j⟩:=I.base.there b o e f;exact free b o' (t b o e f) j (I.base.free b o e n f)
 ·obtain⟨o',j⟩:=I.base.there b o e f;exact there b o' (t b o e f) j
 ·obtain⟨m1,j⟩:=I.base.tbls b ps e;obtain⟨m2,e2⟩:=tbls b _ j;exact⟨m1 ++ m2,by rw[e2,Array.append_assoc]⟩
 ·obtain⟨m,hn,hl⟩:=I.loc;refine⟨m,ns m hn,fun i x v j e2 e3=>?_⟩;obtain⟨u,r,l⟩:=hl i x v j e2 e3;refine⟨u,r,?_⟩
  rcases l with l|⟨k,c,e,z⟩
  ·exact .inl l
  ·exact .inr (oC k c e (h x c e _ z))
 ·obtain⟨v,z⟩:=I.cell x c e;exact⟨v,h x c e v z⟩
 ·obtain⟨m,⟨o,_,_,ho,_⟩,_⟩:=I.loc;exact free _ o (fun z=>(hch _ z).2.1 rfl) ho I.free
 ·refine mV (I.cell x c e) fun v o ho hd=>?_;exact free c o (fun z=>(hch c z).2.2.1 x c e rfl) ho (I.freeC x c e)
 ·refine sC (I.pin p hp) fun e n ne nf d=>?_;have g:p.1∉ch:=fun z=>(hch p.1 z).2.2.2 p hp rfl;exact(u9 (keep p.1 p.2 ne nf g e n) (free p.1 p.2 g e n) ne nf d)
theorem Inv.un {t':Nat}(I:Inv X pins σ H s)(u:Un X.fs [] H H' s.heap h')(hok:HOk X.prog X.w H' h'):Inv X pins σ H' {s with heap:=h',toks:=t'}:=by
 refine cps fun PP kP=>?_;obtain⟨m,⟨o,es,ep,ho,r⟩,_⟩:=id I.loc;obtain⟨sl,hL⟩:=u.any ho I.free (by simp);refine kP ?_;clear kP PP;exact I.step (g':=s.gens) (d':=s.drawn) (ch:=[]) (fun _ z=>nomatch z) (fun b o _ hb _ e n=>u.keep b o e n hb (by simp)) (fun b o _ hb _ e n=>u.slot b o e n hb (by simp)) (fun b o _ e n=>u.free b o e n (by simp)) (fun b o _ e=>u.there b o e (by simp)) u.tups u.frzs u.tbls (fun m' hm=>by
  refine Bm (hm) fun o' es' ep' ho' r'=>?_;rw[ho]at ho';cases ho';exact(xV _ es' ep' hL r')) hok I.bare
theorem Inv.call {g':Array GenState}{t':Nat}{d':Drawn}{ch:List Addr}(I:Inv X pins σ H s)(u:Un (kz X.stack) ch H H' s.heap h')(hok:HOk X.prog X.w H' h')(hg:AllBare g')
  (hch:∀b∈ch,(b∈X.ex∨X.s₀.heap.objs.size≤b)∧b≠X.env.locals∧(∀x c,X.env.cells.lookup x=some c→c≠b)∧∀p∈X.pn ++ pins,p.1≠b) :
  Inv X pins σ H' {s with heap:=h',gens:=g',drawn:=d',toks:=t'}:=by
 refine cps fun PP kP=>?_;obtain⟨m,⟨o,es,ep,ho,r⟩,_⟩:=id I.loc;obtain⟨sl,hL⟩:=u.any ho I.free fun z=>(hch _ z).2.1 rfl;refine kP ?_;clear kP PP;exact I.step (ch:=ch) hch (fun b o hL hb hc e n=>u.keep b o e n (fun z=>(mem_cons.mp (I.stkSub b z)).elim hL hb) hc) (fun b o _ _ hc e n=>u.any e n hc) (fun b o hc e n=>u.free b o e n hc) (fun b o hc e=>u.there b o e hc) u.tups u.frzs u.tbls (fun m' hm=>by
  refine Bm (hm) fun o' es' ep' ho' r'=>?_;rw[ho]at ho';cases ho';exact(xV _ es' ep' hL r')) hok hg
theorem Inv.turned {t':Nat}{it:Addr}(I:Inv X pins σ H s)(k:∀b o,b≠it→s.heap.get? b=some o→h'.get? b=some o)(hn:H it=none)(hL:it≠X.env.locals)
  (h1:it∈X.ex∨X.s₀.heap.objs.size≤it) (h2:∀x c,X.env.cells.lookup x=some c→c≠it) (h3:∀p∈X.pn ++ pins,p.1≠it):Inv X pins σ H {s with heap:=h',toks:=t'}:=by
 have nit:∀b u,H b=some u→b≠it:=fun b u e z=>by rw[z,hn]at e;cases e
 refine I.step (g':=s.gens) (d':=s.drawn) (ch:=[it]) (fun b hb=>?_) (fun b o _ _ hc e _=>k b o (fun z=>hc (by simp[z])) e) (fun b o _ _ hc e _=>⟨o.slots,k b o (fun z=>hc (by simp[z])) e⟩) (fun _ _ _ _ n=>n)
  (fun b o hc e=>⟨o,k b o (fun z=>hc (by simp[z])) e⟩) (fun _ _ e=>e) (fun _ _ _ e=>e) (fun b ps e=>⟨#[],by rw[e];simp⟩) (fun m hm=>?_) (fun b u e=>?_) I.bare
 ·have e:b=it:=by simpa using hb
  subst e;exact(m3 h1 hL h2 h3)
 ·refine Bm (hm) fun o es ep ho r=>?_;exact(xV o es ep (k _ o (Ne.symm hL) ho) r)
 ·refine(I.hok b u e).stay (fun c v hc q=>k c v ?_ q) (fun _ q=>q) fun _ _ q=>q
  rcases hc with z|z
  ·rw[z];exact nit b u e
  ·exact nit c _ z
theorem Inv.tok (I:Inv X pins σ H s)(t:Nat):Inv X pins σ H {s with toks:=t}:=I.un (h':=s.heap) (t':=t) Un.refl I.hok
theorem Inv.kept {t':Nat}(I:Inv X pins σ H s)(k:∀b u,s.heap.get? b=some u→h'.get? b=some u):Inv X pins σ H {s with heap:=h',toks:=t'}:=I.un (Un.kept k) (I.hok.kept k)
theorem Inv.laid {a:Addr}{o:HO}{t':Nat}(I:Inv X pins σ H s)(k:∀b u,s.heap.get? b=some u→h'.get? b=some u)(hp:s.heap.objs.size≤a)(new:ObjOk X.prog X.w (bo H a o) h' a o) :
  Inv X pins σ (bo H a o) {s with heap:=h',toks:=t'}:=I.un (Un.laid k hp (I.hok.fresh hp)) (I.hok.laid k hp new)
theorem Inv.write {x e:Addr}{o:HO}{t':Nat}(I:Inv X pins σ H s)(mu:Hb (H x))(he:e=x∨H e=some (.own x))(k:∀b u,b≠e→s.heap.get? b=some u→h'.get? b=some u)(heo:∃u,h'.get? e=some u)
  (new:ObjOk X.prog X.w (bo H x o) h' x o):Inv X pins σ (bo H x o) {s with heap:=h',toks:=t'}:=I.un (Un.write mu he k heo) (I.hok.write mu he k heo new)
theorem Inv.weak {σ':List (Option V)}(I:Inv X pins σ H s)(hl:σ'.length=σ.length)(w:∀(i:Nat) v,σ'[i]?=some (some v)→σ[i]?=some (some v)):Inv X pins σ' H s:=
 ⟨I.ok,I.os,I.bare,I.base,let ⟨m,hn,hl'⟩:=I.loc;⟨m,hn,fun i x v e1 e2 e3=>hl' i x v e1 (w i v e2) e3⟩,I.cell,I.free,I.freeC,I.pin,I.hok,hl.trans I.len⟩
theorem Inv.pins_of {pins':List (Addr×Obj)}(I:Inv X pins σ H s)(h:∀p∈pins',s.heap.get? p.1=some p.2∧H p.1=none∧p.1≠X.env.locals∧p.1∉X.fs∧∀v,p.2.data≠ .cell v):Inv X pins' σ H s:=
 ⟨I.ok,I.os,I.bare,I.base,I.loc,I.cell,I.free,I.freeC,fun p hp=>(mem_append.mp hp).elim (fun z=>I.pin p (mem_append_left _ z)) (h p),I.hok,I.len⟩
theorem tY {N:List Str}(hN:N.Nodup){i j:Nat}{x:Str}(a:N[i]?=some x)(b:N[j]?=some x):i=j:=by
 obtain⟨h1,e1⟩:=cU a;obtain⟨h2,e2⟩:=cU b;exact(getElem_inj hN).mp (e1.trans e2.symm)
theorem qE {M:Model}{A:Around}{E:Value→Shared→Prop}{i:Nat}{x:Str}{v:V}{u:Value}{Q:Unit→Shared→Prop}(I:Inv X pins σ H s)(hN:X.N.Nodup)(hi:X.N[i]?=some x)(hx:Bs X.env.scope x)(r:RelV v u)
  (h:∀s',Inv X pins (σ.set i (some v)) H s'→(∃a,Heap.SameBut a s.heap s'.heap∧(a=X.env.locals∨X.env.cells.lookup x=some a))→Q () s') (hf:X.fn x=true∨X.env.scope.names.lookup x=some .local:=by first|exact .inl rfl|exact .inr rfl|assumption):wpAny M A (storeName X.env x u) Q E s:=by
 obtain⟨m,hn,hl⟩:=id I.loc;have hcls:(X.env.scope.kind==.class||(X.env.scope.kind==.module&&X.env.locals != X.env.globals))=false:=by rw[I.ok.kind];rfl
 have hiσ:i<σ.length:=by rw[I.len];exact(cU hi).1
 have cne:=I.cne;have B:∀{a:Addr} {h':Heap},(∃o,s.heap.get? a=some o∧H a=none)→Heap.SameBut a s.heap h'→HOk X.prog X.w H h':=fun {a h'} ha l b ob e=>by
  obtain⟨_,_,C⟩:=ha;refine(I.hok b ob e).stay (fun c w' hc q=>(l.2 c ?_).trans q) (fun _ q=>q) fun _ _ q=>q;rintro rfl
  rcases hc with rfl|hc
  ·rw[C]at e;cases e
  ·rw[C]at hc;cases hc
 rcases hx with hk|hk
 ·refine wpAny_storeName_local hk hn (fun h' hn' l=>?_) hcls;refine Bm (id hn) fun oL _ _ hoL _=>?_;refine h _ ⟨I.ok,I.os,I.bare,⟨fun b o e n hb hx=>?_,fun b o e n hb hx=>?_,I.base.free,fun b o e hx=>?_,I.base.tups,I.base.frzs,I.base.tbls⟩,⟨_,hn',fun j y v' t D e3=>?_⟩,fun y c e=>?_,I.free,I.freeC,fun p hp=>?_,B ⟨oL,hoL,I.free⟩ l,by simpa using I.len⟩ ⟨_,l,.inl rfl⟩
  ·exact(l.2 b (ne_of_lt (lt_of_lt_of_le (Heap.lt_size e) I.ok.above))).trans (I.base.keep b o e n hb hx)
  ·obtain⟨sl,t⟩:=I.base.slot b o e n hb hx;exact⟨sl,(l.2 b (ne_of_lt (lt_of_lt_of_le (Heap.lt_size e) I.ok.above))).trans t⟩
  ·obtain⟨o',t⟩:=I.base.there b o e hx;exact⟨o',(l.2 b (ne_of_lt (lt_of_lt_of_le (Heap.lt_size e) I.ok.above))).trans t⟩
  ·by_cases hj:j=i
   ·subst hj;rw[hi]at t;cases t;rw[getElem?_set_self hiσ]at D;cases D;exact⟨u,r,.inl ⟨hk,by simp⟩⟩
   ·rw[getElem?_set_ne (Ne.symm hj)]at D;obtain⟨u',r',q⟩:=hl j y v' t D e3;refine⟨u',r',?_⟩
    rcases q with ⟨k,e⟩|⟨k,c,e,z⟩
    ·refine .inl ⟨k,?_⟩;have:y≠x:=fun e=>hj (tY hN t (e ▸ hi));simp[this,e]
    ·exact .inr (oC k c e (z.sameBut l (cne y c e)))
  ·obtain⟨w',z⟩:=I.cell y c e;exact⟨w',z.sameBut l (cne y c e)⟩
  ·refine sC (I.pin p hp) fun e n ne nf d=>?_;exact(u9 ((l.2 p.1 ne).trans e) n ne nf d)
 ·have hfn:X.fn x=true:=by
   rcases hf with z|z
   ·exact z
   ·rw[z]at hk;cases hk
  obtain⟨c,hc⟩:=I.ok.has x (.inl hk);obtain⟨w',z⟩:=I.cell x c hc;refine wpAny_storeName_cell I.ok.kind hk hc z (fun h' hc' l=>?_);obtain⟨oc,hoc,hocd⟩:=id z;refine h {s with heap:=h'} ⟨I.ok,I.os,I.bare,⟨fun b o e n hb hx=>?_,fun b o e n hb hx=>?_,I.base.free,fun b o e hx=>?_,I.base.tups,I.base.frzs,I.base.tbls⟩,⟨m,hn.sameBut l (Ne.symm (cne x c hc)),fun j y v' t D e3=>?_⟩,fun y c' e=>?_,I.free,I.freeC,fun p hp=>?_,B ⟨oc,hoc,I.freeC x c hc⟩ l,by simpa using I.len⟩ ⟨c,l,.inr hc⟩
  ·exact(l.2 b (ne_of_lt (lt_of_lt_of_le (Heap.lt_size e) (I.ok.cab x c hfn hc)))).trans (I.base.keep b o e n hb hx)
  ·obtain⟨sl,t⟩:=I.base.slot b o e n hb hx;exact⟨sl,(l.2 b (ne_of_lt (lt_of_lt_of_le (Heap.lt_size e) (I.ok.cab x c hfn hc)))).trans t⟩
  ·obtain⟨o',t⟩:=I.base.there b o e hx;exact⟨o',(l.2 b (ne_of_lt (lt_of_lt_of_le (Heap.lt_size e) (I.ok.cab x c hfn hc)))).trans t⟩
  ·by_cases hj:j=i
   ·subst hj;rw[hi]at t;cases t;rw[getElem?_set_self hiσ]at D;cases D;exact⟨u,r,.inr (oC (.inl hk) c hc hc')⟩
   ·rw[getElem?_set_ne (Ne.symm hj)]at D;obtain⟨u',r',q⟩:=hl j y v' t D e3;refine⟨u',r',?_⟩
    rcases q with q|⟨k,c',e,z'⟩
    ·exact .inl q
    ·refine .inr (oC k c' e (z'.sameBut l ?_));rintro rfl;exact hj (tY hN t (I.ok.inj _ _ _ e hc ▸ hi))
  ·by_cases hcc:c'=c
   ·subst hcc;exact⟨_,hc'⟩
   ·obtain⟨w2,z2⟩:=I.cell y c' e;exact⟨w2,z2.sameBut l hcc⟩
  ·refine sC (I.pin p hp) fun e n ne nf d=>?_;refine(u9 ((l.2 p.1 ?_).trans e) n ne nf d);intro q;rw[q,hoc]at e;have q':oc=p.2:=Option.some.inj e;exact d w' (by rw[←q'];exact hocd)
theorem uw {M:Model}{A:Around}{E:Value→Shared→Prop}{i:Nat}{x:Str}{v:V}{u:Value}{Q:Unit→Shared→Prop}(I:Inv X pins σ H s)(hN:X.N.Nodup)(hi:X.N[i]?=some x)(hx:Bs X.env.scope x)(r:RelV v u)
  (h:∀s',Inv X pins (σ.set i (some v)) H s'→Q () s') (hf:X.fn x=true∨X.env.scope.names.lookup x=some .local:=by first|exact .inl rfl|exact .inr rfl|assumption):wpAny M A (storeName X.env x u) Q E s:=
 qE I hN hi hx r (fun s' I' _=>h s' I') hf
theorem Inv.call' {s':Shared}{ch:List Addr}(I:Inv X pins σ H s)(ho:s'.os=s.os)(u:Un (kz X.stack) ch H H' s.heap s'.heap)(hok:HOk X.prog X.w H' s'.heap)(hg:AllBare s'.gens)
  (hch:∀b∈ch,(b∈X.ex∨X.s₀.heap.objs.size≤b)∧b≠X.env.locals∧(∀x c,X.env.cells.lookup x=some c→c≠b)∧∀p∈X.pn ++ pins,p.1≠b):Inv X pins σ H' s':=by
 obtain⟨h',g',d',t',o'⟩:=s';have e:o'=s.os:=ho;subst e;exact I.call (g':=g') (t':=t') (d':=d') u hok hg hch
end
noncomputable abbrev XK:=Value→Option Addr→Hp→Prop
noncomputable abbrev St:=List (Option V)
noncomputable abbrev VK:=V→Hp→Prop
noncomputable abbrev TE:=St→Hp→VK→Prop
noncomputable abbrev TT:=St→Hp→(Bool→Hp→Prop)→Prop
noncomputable abbrev TA:=St→Hp→(List V→Hp→Prop)→Prop
structure Ends where
 nx:St→Hp→Prop
 rt:VK
 bk:St→Hp→Prop:=fun _ _=>False
 ct:St→Hp→Prop:=fun _ _=>False
noncomputable abbrev TS:=Ends→St→Hp→Prop
inductive EP (X:Cx)(pins:List (Addr×Obj))(σ:St)(Q:VK)(u:Value)(s':Shared):Prop
 |mk (v:V) (H':Hp) (i:Inv X pins σ H' s') (r:RelV v u) (q:Q v H')
inductive TP (X:Cx)(pins:List (Addr×Obj))(σ:St)(Q:Bool→Hp→Prop)(b:Bool)(s':Shared):Prop
 |mk (H':Hp) (i:Inv X pins σ H' s') (q:Q b H')
inductive AP (X:Cx)(pins:List (Addr×Obj))(σ:St)(Q:List V→Hp→Prop)(us:List Value)(s':Shared):Prop
 |mk (vs:List V) (H':Hp) (i:Inv X pins σ H' s') (r:Vals vs us) (q:Q vs H')
inductive SN (X:Cx)(pins:List (Addr×Obj))(P:St→Hp→Prop)(s':Shared):Prop
 |mk (σ':St) (H':Hp) (i:Inv X pins σ' H' s') (q:P σ' H')
inductive SRt (X:Cx)(pins:List (Addr×Obj))(P:VK)(u:Value)(s':Shared):Prop
 |mk (v:V) (σ':St) (H':Hp) (i:Inv X pins σ' H' s') (r:RelV v u) (q:P v H')
noncomputable def SP (X:Cx)(pins:List (Addr×Obj))(D:Ends)(f:Flow)(s':Shared):Prop:=
 match f with
 |.next=>SN X pins D.nx s'
 |.brk=>SN X pins D.bk s'
 |.cont=>SN X pins D.ct s'
 |.ret u=>SRt X pins D.rt u s'
noncomputable def PE (X:Cx)(e:Expr)(t:TE):Prop:=
 ∀(pins:List (Addr×Obj)) (s:Shared) (σ:St) (H:Hp) (Q:VK),Inv X pins σ H s→t σ H Q→wpAny (model X.prog X.w) X.A (eval e X.env) (EP X pins σ Q) X.xe s
noncomputable def PT (X:Cx)(e:Expr)(t:TT):Prop:=
 ∀(pins:List (Addr×Obj)) (s:Shared) (σ:St) (H:Hp) (Q:Bool→Hp→Prop),Inv X pins σ H s→t σ H Q→wpAny (model X.prog X.w) X.A (isTrue e X.env (eval e X.env)) (TP X pins σ Q) X.xe s
noncomputable def PA (X:Cx)(es:List Expr)(t:TA):Prop:=
 ∀(pos:Pos) (pins:List (Addr×Obj)) (s:Shared) (σ:St) (H:Hp) (Q:List V→Hp→Prop),Inv X pins σ H s→t σ H Q→wpAny (model X.prog X.w) X.A (spliced (backTo pos (starEach es X.env))) (AP X pins σ Q) X.xe s
noncomputable def PS (X:Cx)(st:Stmt)(t:TS):Prop:=
 ∀(pins:List (Addr×Obj)) (s:Shared) (σ:St) (H:Hp) (D:Ends),Inv X pins σ H s→t D σ H→wpAny (model X.prog X.w) X.A (exec st X.env) (SP X pins D) X.xe s
noncomputable def GX (X:Cx)(st:List Stmt)(t:TS):Prop:=
 ∀(pins:List (Addr×Obj)) (s:Shared) (σ:St) (H:Hp) (D:Ends),Inv X pins σ H s→t D σ H→wpAny (model X.prog X.w) X.A (execs st X.env) (SP X pins D) X.xe s
theorem aO {α:Type}{t:Sem α}{Q Q':α→Shared→Prop}{M:Model}{A:Around}{E:Value→Shared→Prop}{s:Shared}(h:wpAny M A t Q E s)(hQ:∀a s,Q a s→Q' a s):wpAny M A t Q' E s:=wpAny_mono h hQ fun _ _ x=>x
section
variable{X:Cx}
noncomputable def II (i:Nat):TE:=fun σ H Q=>∃v,σ[i]?=some (some v)∧Q v H
noncomputable def tC (v:V):TE:=fun _ H Q=>Q v H
theorem iQ {i:Nat}{x:Str}{pos:Pos}(hN:X.N[i]?=some x)(hv:yP X.env.scope x)(hd:(x==("__debug__" :Str))=false:=by decide)(hcd:(x==("__classdict__" :Str))=false:=by decide):PE X (.Name x pos) (II i):=by
 intro pins s σ H Q I h;refine cps fun PP kP=>?_;obtain⟨v,e,h⟩:=h;obtain⟨m,hn,hl⟩:=I.loc;obtain⟨u,r,l⟩:=hl i x v hN e hv;refine kP ?_;clear kP PP;have fin:EP X pins σ Q u s:=⟨v,H,I,r,h⟩
 rcases l with ⟨hk,hm⟩|⟨hk,c,hc,n⟩
 ·exact wpAny_Name (wpAny_loadName_local I.ok.kind hk hn hm fin) hd
 ·rcases hk with hk|hk
  ·exact wpAny_Name (wpAny_loadName_cell I.ok.kind hk hc n fin) hd
  ·exact wpAny_Name (wpAny_loadName_free I.ok.kind hk hc n fin hcd) hd
theorem As {i j pos}:PE X (.Constant (.int i) j pos) (tC (.int i)):=fun _ _ _ H _ I h=>wpAny_Constant_int ⟨.int i,H,I.tok _,⟨_,rfl⟩,h⟩
theorem Ir {b j pos}:PE X (.Constant (.bool b) j pos) (tC (.bl b)):=fun _ _ _ H _ I h=>Constant_bool ⟨.bl b,H,I,rfl,h⟩
theorem Gm {x j pos}:PE X (.Constant (.str x) j pos) (tC (.str x)):=fun _ _ _ H _ I h=>Calls.Constant_str ⟨.str x,H,I.tok _,⟨_,rfl⟩,h⟩
noncomputable def Gl (X:Cx)(x:Str):Prop:=X.env.kindOf x=some .globalImplicit
theorem rM {E:Value→Shared→Prop}{pins:List (Addr×Obj)}{s:Shared}{σ:St}{H:Hp}{x:Str}{u:Value}{pos:Pos}{Q:Value→Shared→Prop}(I:Inv X pins σ H s)(hg:Gl X x)(hm:X.mg x=some u)(h:Q u s)
  (hd:(x==("__debug__" :Str))=false:=by decide):wpAny (model X.prog X.w) X.A (eval (.Name x pos) X.env) Q E s:=
 Calls.Name_function_global I.ok.kind hg (Calls.loadGlobal_global (by rw[I.ok.glob];exact I.mod.glob.keeps I.bk) hm h) hd
theorem ju {E:Value→Shared→Prop}{pins:List (Addr×Obj)}{s:Shared}{σ:St}{H:Hp}{x:Str}{u:Value}{pos:Pos}{Q:Value→Shared→Prop}(I:Inv X pins σ H s)(hg:Gl X x)(hm:X.mg x=none)(hv:bootBuiltins x=some u)(h:Q u s)
  (hn:x≠ "__name__" :=by decide) (hd:(x==("__debug__" :Str))=false:=by decide):wpAny (model X.prog X.w) X.A (eval (.Name x pos) X.env) Q E s:=by
 obtain⟨mb,h1,h2⟩:=I.mod.blt;exact Calls.Name_function_global I.ok.kind hg (Calls.loadGlobal_builtin (by rw[I.ok.glob];exact I.mod.glob.keeps I.bk) hm (by rw[I.ok.blt];exact h1.keeps I.bk) ((h2 x hn).trans hv) h) hd
theorem Da {x:Str}{v:V}{u:Value}{pos:Pos}(hg:Gl X x)(hm:X.mg x=some u)(r:RelV v u)(hd:(x==("__debug__" :Str))=false:=by decide):PE X (.Name x pos) (tC v):=
 fun _ _ _ H _ I h=>rM I hg hm ⟨v,H,I,r,h⟩ hd
theorem rS {x:Str}{v:V}{u:Value}{pos:Pos}(hg:Gl X x)(hm:X.mg x=none)(hv:bootBuiltins x=some u)(r:RelV v u)(hn:x≠ "__name__" :=by decide)(hd:(x==("__debug__" :Str))=false:=by decide):PE X (.Name x pos) (tC v):=
 fun _ _ _ H _ I h=>ju I hg hm hv ⟨v,H,I,r,h⟩ hn hd
variable{a b:Expr}{ta tb:TE}{pos:Pos}
variable{tA tB':TT}{rest:List Expr}
end
noncomputable def gC (K:W.Frag)(H:Hp)(a:Addr)(xs:List V):Prop:=
 Rd H a (.lst xs)∨
  ∃(o:Obj) (its:Array Value) (n:Nat),K.lookup a=some o∧o.cls= .type "list" ∧o.dict=none∧o.data= .seq its n∧its.size≤sizeLine∧Vals xs its.toList
noncomputable def nk (K:W.Frag)(H:Hp)(a:Addr)(xs:List V):Prop:=
 Rd H a (.tup xs)∨
  ∃(o:Obj) (its:Array Value) (n:Nat),K.lookup a=some o∧o.cls= .type "tuple" ∧o.data= .seq its n∧its.size≤sizeLine∧Vals xs its.toList
noncomputable def Jg:Value→Option V
 |.none=>some .non
 |.bool b=>some (.bl b)
 |.int i _=>some (.int i)
 |.str x _=>some (.str x)
 |.bytes b _=>some (.byt b)
 |.float b _=>some (.flt b)
 |.ref a=>some (.ref a)
 |.type n=>some (.ty n)
 |_=>none
theorem RelV.abs {x:V}{u:Value}(r:RelV x u):Jg u=some x:=by
 cases x with
 |non=>cases r;rfl
 |bl _=>cases r;rfl
 |int _=>obtain⟨t,rfl⟩:=r;rfl
 |str _=>obtain⟨t,rfl⟩:=r;rfl
 |byt _=>obtain⟨t,rfl⟩:=r;rfl
 |flt _=>obtain⟨t,rfl⟩:=r;rfl
 |ref _=>cases r;rfl
 |ty _=>cases r;rfl
theorem RelV.inj {x y:V}{u:Value}(r:RelV x u)(q:RelV y u):x=y:=Option.some.inj (r.abs.symm.trans q.abs)
theorem Vals.inj:∀{xs ys:List V} {us:List Value},Vals xs us→Vals ys us→xs=ys
 |_,_,_,.nil,.nil=>rfl
 |_,_,_,.cons r t,.cons r' t'=>by rw[r.inj r',Vals.inj t t']
section
variable{X:Cx}{pins:List (Addr×Obj)}{σ:St}{H:Hp}{s:Shared}{a:Addr}{xs ys:List V}
theorem Inv.list (I:Inv X pins σ H s)(h:gC X.K H a xs):∃its:List Value,Vals xs its∧PlainL s.heap a its.toArray∧xs.length≤sizeLine:=by
 rcases h with h|⟨o,its,n,hk,hc,hd,hs,hz,r⟩
 ·refine yJ (h.ok I.hok) fun z its n r e=>?_;exact(gW its r (l9 _ n e rfl rfl rfl) z)
 ·refine(gW its.toList r (l9 o n (I.kIn a o hk) hc hd (by simpa using hs)) ?_);have e:=r.length;simp only[length_toList]at e;omega
theorem Inv.tuple (I:Inv X pins σ H s)(h:nk X.K H a xs):∃its:List Value,Vals xs its∧IsTup s.heap a its.toArray∧xs.length≤sizeLine:=by
 rcases h with h|⟨o,its,n,hk,hc,hs,hz,r⟩
 ·refine uC (h.ok I.hok) fun z its r p=>?_;exact(gW its r p z)
 ·refine(gW its.toList r (HC o (I.kIn a o hk) hc n (by simpa using hs)) ?_);have e:=r.length;simp only[length_toList]at e;omega
theorem Inv.list_inj (I:Inv X pins σ H s)(h:gC X.K H a xs)(h':gC X.K H a ys):xs=ys:=by
 refine cps fun PP kP=>?_;refine cj (I.list h) fun its r hS1 _=>?_;obtain⟨o,n,e,_,_,d⟩:=hS1;refine cj (I.list h') fun its' r' hS2 _=>?_;obtain⟨o',n',e',_,_,d'⟩:=hS2;refine kP ?_;clear kP PP;rw[e]at e';cases e';rw[d]at d';injection d' with d1 _
 have:its=its':=by simpa using congrArg toList d1
 subst this;exact r.inj r'
theorem Inv.tuple_inj (I:Inv X pins σ H s)(h:nk X.K H a xs)(h':nk X.K H a ys):xs=ys:=by
 refine cps fun PP kP=>?_;refine cj (I.tuple h) fun its r hS3 _=>?_;obtain⟨o,e,_,n,d⟩:=hS3;refine cj (I.tuple h') fun its' r' hS4 _=>?_;obtain⟨o',e',_,n',d'⟩:=hS4;refine kP ?_;clear kP PP;rw[e]at e';cases e';rw[d]at d';injection d' with d1 _
 have:its=its':=by simpa using congrArg toList d1
 subst this;exact r.inj r'
end
section
variable{X:Cx}{pins:List (Addr×Obj)}{σ:St}{H:Hp}{s:Shared}{E:Value→Shared→Prop}
end
section
variable{X:Cx}{st:Stmt}{rest:List Stmt}{t u:TS}{e:Expr}{te:TE}{pos:Pos}
noncomputable def JK (t u:TS):TS:=fun D σ H=>t {D with nx:=u D} σ H
theorem ud (h1:PS X st t)(h2:GX X rest u):GX X (st::rest) (JK t u):=by
 intro pins s σ H D I h;refine wpAny_execs_cons (aO (h1 pins s σ H {D with nx:=u D} I h) fun f s1 q=>?_)
 cases f with
 |next=>
  obtain⟨σ',H',I',q⟩:=q;exact h2 pins s1 σ' H' D I' q
 |ret v=>exact q
 |brk=>exact q
 |cont=>exact q
theorem wU (h1:PS X st t):GX X [st] t:=by
 intro pins s σ H D I h;refine wpAny_execs_cons (aO (h1 pins s σ H D I h) fun f s1 q=>?_);cases f with
 |next=>exact wpAny_execs_nil q
 |ret v=>exact q
 |brk=>exact q
 |cont=>exact q
theorem Inv.quiet {pins:List (Addr×Obj)}{σ:St}{H:Hp}{s:Shared}(I:Inv X pins σ H s):interactive X.env=false:=by simp[interactive,I.ok.kind]
noncomputable def IG (te:TE):TS:=fun D σ H=>te σ H fun _ H1=>D.nx σ H1
theorem gr (he:PE X e te)(hs:swapsWith e none pos.line X.env=pure false:=by rfl):PS X (.Expr e pos) (IG te):=by
 intro pins s σ H D I h;exact wpAny_Expr_any (aO (he pins s σ H _ I h) fun v s1 hZ49=>(by obtain⟨x,H1,I1,r1,q1⟩:=hZ49;exact⟨σ,H1,I1,q1⟩)) I.quiet hs
noncomputable def JI (te:TE):TS:=fun D σ H=>te σ H D.rt
theorem vG (he:PE X e te):PS X (.Return (some e) pos) (JI te):=by
 intro pins s σ H D I h;exact wpAny_Return_some (aO (he pins s σ H _ I h) fun v s1 hZ50=>(by obtain⟨x,H1,I1,r1,q1⟩:=hZ50;exact⟨x,σ,H1,I1,r1,q1⟩))
end
noncomputable abbrev TG:=V→St→Hp→(St→Hp→Prop)→Prop
noncomputable abbrev EB:=List V→St→Hp→(St→Hp→Prop)→Prop
noncomputable def PG (X:Cx)(target:Expr)(t:TG):Prop:=
 ∀(pins:List (Addr×Obj)) (s:Shared) (σ:St) (H:Hp) (v:V) (u:Value) (Q:St→Hp→Prop),Inv X pins σ H s→RelV v u→t v σ H Q→
  wpAny (model X.prog X.w) X.A (assign target X.env u) (fun _ s'=>SN X pins Q s') X.xe s
noncomputable def IS (X:Cx)(ts:List Expr)(t:EB):Prop:=
 ∀(pins:List (Addr×Obj)) (s:Shared) (σ:St) (H:Hp) (vs:List V) (us:List Value) (Q:St→Hp→Prop),Inv X pins σ H s→Vals vs us→t vs σ H Q→
  wpAny (model X.prog X.w) X.A (assignInOrder ((assignEach ts X.env).map (·.2)) us) (fun _ s'=>SN X pins Q s') X.xe s
noncomputable abbrev EC:=V→V→V→Hp→(Hp→Prop)→Prop
noncomputable def He (X:Cx)(t:EC):Prop:=
 ∀(pins:List (Addr×Obj)) (s:Shared) (σ:St) (H:Hp) (o i v:V) (ov iv u:Value) (Q:Hp→Prop),Inv X pins σ H s→RelV o ov→RelV i iv→RelV v u→t o i v H Q→
  wpAny (model X.prog X.w) X.A (setItem ov iv u) (fun _ s'=>∃H',Inv X pins σ H' s'∧Q H') X.xe s
section
variable{X:Cx}{pos:Pos}
noncomputable def b9 (i:Nat):TG:=fun v σ H Q=>Q (σ.set i (some v)) H
theorem eB {i:Nat}{x:Str}(hN:X.N.Nodup)(hi:X.N[i]?=some x)(hx:Bs X.env.scope x)(hf:X.fn x=true∨X.env.scope.names.lookup x=some .local:=by first|exact .inl rfl|exact .inr rfl|assumption):PG X (.Name x pos) (b9 i):=by
 intro pins s σ H v u Q I r h;exact wpAny_assign_Name (uw I hN hi hx r (fun s' I'=>⟨_,H,I',h⟩) hf)
noncomputable def xL:EB:=fun vs σ H Q=>vs=[]∧Q σ H
noncomputable def jq (t:TG)(u:EB):EB:=fun vs σ H Q=>∃v r,vs=v::r∧t v σ H fun σ' H'=>u r σ' H' Q
theorem rV:IS X [] xL:=by
 intro pins s σ H vs us Q I r h;obtain⟨e,h⟩:=h;subst e;cases r;exact assignInOrder_nil ⟨σ,H,I,h⟩
theorem h_ {e:Expr}{es:List Expr}{t:TG}{u:EB}(h1:PG X e t)(h2:IS X es u)
  (hs:(assignEach (e::es) X.env).map (·.2)=assign e X.env::(assignEach es X.env).map (·.2):=by rfl):IS X (e::es) (jq t u):=by
 intro pins s σ H vs us Q I r h;obtain⟨v,vr,e1,h⟩:=h;subst e1;cases r with
 |cons r rr=>
  rw[hs];refine assignInOrder_cons (aO (h1 pins s σ H _ _ _ I r h) fun _ s1 hZ51=>?_);obtain⟨σ1,H1,I1,q1⟩:=hZ51;exact h2 pins s1 σ1 H1 _ _ Q I1 rr q1
noncomputable def xM (K:W.Frag)(n:Nat)(t:EB):TG:=fun v σ H Q=>∃a xs,v= .ref a∧nk K H a xs∧xs.length=n∧t xs σ H Q
theorem vC {es:List Expr}{k:Nat}{t:EB}{n:Nat}(hc:X.calm=true)(h:IS X es t)
  (hn:(assignEach es X.env).length=n:=by rfl) (hst:(assignEach es X.env).findIdx? (·.1)=none:=by rfl):PG X (.Tuple es k pos) (xM X.K n t):=by
 intro pins s σ H v u Q I r hw;obtain⟨a,xs,e1,hq,hl,hw⟩:=hw;subst e1;cases r;obtain⟨its,rv,ht,hz⟩:=I.tuple hq;refine assign_Tuple_tuple (I.ok.hd hc) ht (by simp[hn,←hl,rv.length]) hst fun h' hx=>?_;have I1:Inv X pins σ H {s with heap:=h'}:=I.kept (t':=s.toks) fun b o e=>hx b o (ne_of_lt (Heap.lt_size e)) e
 exact h pins _ σ H xs _ Q I1 (by simpa using rv) hw
noncomputable def Jl (to ti:TE)(t:EC):TG:=fun v σ H Q=>to σ H fun o H1=>ti σ H1 fun i H2=>t o i v H2 fun H3=>Q σ H3
theorem Gn {o i:Expr}{to ti:TE}{t:EC}(ho:PE X o to)(hi:PE X i ti)(hs:He X t)
  (ha:∀v,assign (.Subscript o i pos) X.env v=(do
   let ov ←holding [v] (eval o X.env)
   let iv ←holding [v,ov] (eval i X.env)
   standAt pos
   holding [v,ov,iv] (setItem ov iv v)
   release [v,ov,iv] []):=by intro _;rfl):PG X (.Subscript o i pos) (Jl to ti t):=by
 intro p s σ H v u Q I r h;rw[ha];refine wpAny_bind (wpAny_holding (aO (ho p s σ H _ I h) fun ov s1 hZ52=>?_));obtain⟨x,H1,I1,r1,q1⟩:=hZ52;refine wpAny_bind (wpAny_holding (aO (hi p s1 σ H1 _ I1 q1) fun iv s2 hZ53=>?_));obtain⟨y,H2,I2,r2,q2⟩:=hZ53;refine wpAny_bind (wpAny_standAt (wpAny_bind (wpAny_holding (aO (hs p s2 σ H2 x y v ov iv u _ I2 r1 r2 r q2) fun _ s3 hZ54=>?_))));obtain⟨H3,I3,q3⟩:=hZ54;exact wpAny_release ⟨σ,H3,I3,q3⟩
noncomputable def sw (te:TE)(g:TG):TS:=fun D σ H=>te σ H fun x H1=>g x σ H1 D.nx
theorem Gv {tg e:Expr}{te:TE}{g:TG}(he:PE X e te)(hg:PG X tg g)(hs:swapsWithSole [tg] e pos.line X.env=pure false:=by rfl)(hw:swappedStores [tg] e X.env=pure none:=by rfl)
  (h1:(assignEach [tg] X.env).map (·.2)=[assign tg X.env]:=by rfl):PS X (.Assign [tg] e pos) (sw te g):=by
 intro pins s σ H D I h;refine wpAny_Assign_stores (aO (he pins s σ H _ I h) fun v s1 hZ55=>?_) hs hw;obtain⟨x,H1,I1,r1,q1⟩:=hZ55;rw[h1];exact aO (hg pins s1 σ H1 x v _ I1 r1 q1) fun _ s2 q=>q
theorem Gx {i:Nat}{x:Str}{e:Expr}{te:TE}{pos':Pos}(hN:X.N.Nodup)(hi:X.N[i]?=some x)(hx:Bs X.env.scope x)(he:PE X e te)(hs:swapsWith e (some (.Name x pos')) pos.line X.env=pure false:=by rfl)(hf:X.fn x=true∨X.env.scope.names.lookup x=some .local:=by first|exact .inl rfl|exact .inr rfl|assumption) :
  PS X (.Assign [.Name x pos'] e pos) (sw te (b9 i)):=by
 intro pins s σ H D I h;refine wpAny_Assign_Name (aO (he pins s σ H _ I h) fun v s1 hZ56=>?_) hs;obtain⟨y,H1,I1,r1,q1⟩:=hZ56;exact uw I1 hN hi hx r1 (fun s2 I2=>⟨_,H1,I2,q1⟩) hf
end
structure It where
 go:Nat→Hp→Prop
 yld:Nat→Hp→V→Hp→Prop
 stop:Nat→Hp→Prop
noncomputable def i5 (X:Cx)(pins:List (Addr×Obj))(H:Hp)(b:Addr):Prop:=
 H b=none∧b≠X.env.locals∧b∉X.fs∧(b∈X.ex∨X.s₀.heap.objs.size≤b)∧(∀x c,X.env.cells.lookup x=some c→c≠b)∧∀p∈X.pn ++ pins,p.1≠b
theorem Inv.fpOk {X:Cx}{pins:List (Addr×Obj)}{σ:St}{H H':Hp}{s:Shared}{b:Addr}(I:Inv X pins σ H s)(hb:s.heap.objs.size≤b)(hn:H' b=none):i5 X pins H' b:=by
 refine(HD hn (ne_of_gt (lt_of_lt_of_le I.lt hb)) (I.nofs hb) (.inr (le_trans I.sz hb)) (fun x c e z=>?_) (fun p hp z=>?_))
 ·obtain⟨v,q⟩:=I.cell x c e;exact absurd (lt_of_lt_of_le q.lt (by rw[z];exact hb)) (lt_irrefl _)
 ·exact absurd (lt_of_lt_of_le (Heap.lt_size (I.pin p hp).1) (by rw[z];exact hb)) (lt_irrefl _)
structure Turn (P:Program)(w:World)(K:W.Frag)(tg:Expr)(J:It)(fp:List Addr)(it:Addr)(tn:Nat→Heap→Prop):Prop where
 mem:it∈fp
 obj:∀i h,tn i h→∀b∈fp,∃o,h.get? b=some o∧∀v,o.data≠ .cell v
 keep:∀i h h',tn i h→(∀b∈fp,∀o,h.get? b=some o→h'.get? b=some o)→tn i h'
 item:∀(X:Cx),X.prog=P→X.w=w→X.K=K→X.calm=true→∀(i:Nat) (pins:List (Addr×Obj)) (s:Shared) (σ:St) (H:Hp) (E:Value→Shared→Prop),Inv X pins σ H s→(∀b∈fp,i5 X pins H b)→tn i s.heap→J.go i H→
  wpAny (model P w) X.A (pyNext (.ref it)) (fun r s1=>∃u,r=some u∧
   wpAny (model P w) X.A (letOwnedTupleGo tg (.ref it) u) (fun _ s2=>∃x H',Inv X pins σ H' s2∧RelV x u∧J.yld i H x H'∧tn (i+1) s2.heap∧∀b∈fp,H' b=none) E s1) E s
 done:∀(X:Cx),X.prog=P→X.w=w→X.K=K→X.calm=true→∀(i:Nat) (pins:List (Addr×Obj)) (s:Shared) (σ:St) (H:Hp) (E:Value→Shared→Prop),Inv X pins σ H s→(∀b∈fp,i5 X pins H b)→tn i s.heap→J.stop i H→
  wpAny (model P w) X.A (pyNext (.ref it)) (fun r s1=>r=none∧Inv X pins σ H s1) E s
 self:∀(A:Around) (i:Nat) (s:Shared) (Q:Value→Shared→Prop) (E:Value→Shared→Prop),tn i s.heap→Q (.ref it) s→wpAny (model P w) A (pyIter (.ref it)) Q E s
noncomputable abbrev TI:=St→Hp→(It→Hp→Prop)→Prop
inductive PIE (X:Cx)(pins:List (Addr×Obj))(σ:St)(tg:Expr)(R:It→Hp→Prop)(itv:Value)(s2:Shared):Prop
 |mk (it:Addr) (fp:List Addr) (tn:Nat→Heap→Prop) (J:It) (H':Hp) (e:itv= .ref it) (i:Inv X pins σ H' s2) (T:Turn X.prog X.w X.K tg J fp it tn) (st:tn 0 s2.heap) (f:∀b∈fp,i5 X pins H' b) (q:R J H')
noncomputable def PI (X:Cx)(tg iter:Expr)(wi:TI):Prop:=
 ∀(pins:List (Addr×Obj)) (s:Shared) (σ:St) (H:Hp) (R:It→Hp→Prop),Inv X pins σ H s→wi σ H R→
  wpAny (model X.prog X.w) X.A (eval iter X.env) (fun v s1=>wpAny (model X.prog X.w) X.A (pyIter v) (PIE X pins σ tg R) X.xe s1) X.xe s
theorem wq {M:Model}{A:Around}{E:Value→Shared→Prop}{s:Shared}{tg:Expr}{it:Addr}{u:Value}{o:Obj}{n:String}{vs:Array Value}{Q:Unit→Shared→Prop}(ho:s.heap.get? it=some o)(hc:o.cls= .type n)(hd:o.data= .fields vs)
    (hn:["enumerate","zip","dict_itemiterator","dict_reverseitemiterator","odict_iterator","itertools.zip_longest","itertools.pairwise"].contains n=false) (hQ:Q () s):wpAny M A (letOwnedTupleGo tg (.ref it) u) Q E s:=by
  unfold letOwnedTupleGo;cases tg <;> first
    |exact wpAny_pure hQ
    | (cases u <;> first
        |exact wpAny_pure hQ
        | (refine wpAny_bind (wpAny_load ho ?_)
           rw[hc,hd];show wpAny M A (if (["enumerate","zip","dict_itemiterator","dict_reverseitemiterator","odict_iterator","itertools.zip_longest","itertools.pairwise"].contains n&&vs[0]?==some (rawInt _))=true then _ else _) Q E s
           rw[if_neg (by intro h;rw[hn,Bool.false_and]at h;cases h)];exact wpAny_pure hQ))
noncomputable def Ex (K:W.Frag)(a:Addr):It:=
 ⟨fun i H=>∃xs x,gC K H a xs∧xs[i]?=some x,fun i H x H'=>H'=H∧∀xs,gC K H a xs→xs[i]?=some x,fun i H=>∃xs,gC K H a xs∧xs.length≤i⟩
noncomputable def IR (K:W.Frag)(a:Addr):It:=
 ⟨fun i H=>∃xs x,nk K H a xs∧xs[i]?=some x,fun i H x H'=>H'=H∧∀xs,nk K H a xs→xs[i]?=some x,fun i H=>∃xs,nk K H a xs∧xs.length≤i⟩
noncomputable def Ha (lo:Int)(n:Nat):It:=⟨fun i _=>i<n,fun i H x H'=>H'=H∧x= .int (lo+i),fun i _=>n≤i⟩
theorem yF {P:Program}{w:World}{K:W.Frag}{tg:Expr}(a it:Addr):Turn P w K tg (Ex K a) [it] it (fun i h=>h.IsListIter it a i) where
 mem:=by simp
 obj:=fun i h q b hb=>by
  have e:b=it:=by simpa using hb
  subst e;refine cj (q) fun o e c d=>?_;exact⟨o,e,fun v z=>by rw[d]at z;cases z⟩
 keep:=fun i h h' q k=>q.at fun o e=>k it (by simp) o e
 item:=by
  intro X hP hw hK hc i pins s σ H E I hf q hg;subst hP hw hK;refine cps fun PP kP=>?_;refine mV (hg) fun xs x hq hx=>?_;refine cj (I.list hq) fun its rv p hz=>?_;obtain⟨u,hu,ru⟩:=rv.get hx;refine pY (hf it (by simp)) fun f0 f1 f2 f3 f4 f5=>?_;refine kP ?_;clear kP PP;refine wpAny_pyNext_list_item q p.isList (x:=u) (by simpa using hu) fun h' st' sb=>?_;have I1:Inv X pins σ H {s with heap:=h'}:=I.turned (t':=s.toks) (fun b o hb e=>(sb.2 b hb).trans e) f0 f1 f3 f4 f5
  refine cj (id st') fun o e c d=>?_;exact⟨u,rfl,wq (s:={s with heap:=h'}) e c d (by decide) (xW x H I1 ru ⟨rfl,fun ys hy=>by rw[I.list_inj hy hq];exact hx⟩ st' (fun b hb=>(hf b hb).1))⟩
 done:=by
  intro X hP hw hK hc i pins s σ H E I hf q hg;subst hP hw hK;refine cps fun PP kP=>?_;obtain⟨xs,hq,hx⟩:=hg;refine cj (I.list hq) fun its rv p hz=>?_;refine pY (hf it (by simp)) fun f0 f1 f2 f3 f4 f5=>?_;refine kP ?_;clear kP PP;have hl:=rv.length;exact wpAny_pyNext_list_end (I.ok.hd hc) q p.isList (by simp;omega) fun h' eb=>⟨rfl,I.turned (t':=s.toks) (fun b o hb e=>eb b o hb e) f0 f1 f3 f4 f5⟩
 self:=fun _ _ _ _ _ q h=>wpAny_pyIter_listiter q h
theorem vT {P:Program}{w:World}{K:W.Frag}{tg:Expr}(a it:Addr):Turn P w K tg (IR K a) [it] it (fun i h=>h.IsTupleIter it a i) where
 mem:=by simp
 obj:=fun i h q b hb=>by
  have e:b=it:=by simpa using hb
  subst e;refine cj (q) fun o e c d=>?_;exact⟨o,e,fun v z=>by rw[d]at z;cases z⟩
 keep:=fun i h h' q k=>q.at fun o e=>k it (by simp) o e
 item:=by
  intro X hP hw hK hc i pins s σ H E I hf q hg;subst hP hw hK;refine cps fun PP kP=>?_;refine mV (hg) fun xs x hq hx=>?_;refine cj (I.tuple hq) fun its rv p hz=>?_;obtain⟨u,hu,ru⟩:=rv.get hx;refine pY (hf it (by simp)) fun f0 f1 f2 f3 f4 f5=>?_;refine kP ?_;clear kP PP;refine wpAny_pyNext_tuple_item q (show s.heap.IsTuple a its.toArray from p) (x:=u) (by simpa using hu) fun h' st' sb=>?_;have I1:Inv X pins σ H {s with heap:=h'}:=I.turned (t':=s.toks) (fun b o hb e=>(sb.2 b hb).trans e) f0 f1 f3 f4 f5
  refine cj (id st') fun o e c d=>?_;exact⟨u,rfl,wq (s:={s with heap:=h'}) e c d (by decide) (xW x H I1 ru ⟨rfl,fun ys hy=>by rw[I.tuple_inj hy hq];exact hx⟩ st' (fun b hb=>(hf b hb).1))⟩
 done:=by
  intro X hP hw hK hc i pins s σ H E I hf q hg;subst hP hw hK;refine cps fun PP kP=>?_;obtain⟨xs,hq,hx⟩:=hg;refine cj (I.tuple hq) fun its rv p hz=>?_;refine pY (hf it (by simp)) fun f0 f1 f2 f3 f4 f5=>?_;refine kP ?_;clear kP PP;have hl:=rv.length;exact wpAny_pyNext_tuple_end (I.ok.hd hc) q (show s.heap.IsTuple a its.toArray from p) (by simp;omega) fun h' eb=>⟨rfl,I.turned (t':=s.toks) (fun b o hb e=>eb b o hb e) f0 f1 f3 f4 f5⟩
 self:=fun _ _ _ _ _ q h=>wpAny_pyIter_tupleiter q h
theorem vS {P:Program}{w:World}{K:W.Frag}{tg:Expr}(it:Addr)(lo:Int)(n:Nat):Turn P w K tg (Ha lo n) [it] it (fun i h=>IsRangeIter h it (lo+(i:Nat)*1) ((n:Int)-(i:Nat)) 1) where
 mem:=by simp
 obj:=fun i h p b hb=>by
  have e:b=it:=by simpa using hb
  subst e;exact⟨_,p,fun v z=>by
   have z':Data.fields _=Data.cell v:=z;cases z'⟩
 keep:=fun i h h' p k=>k it (by simp) _ p
 item:=by
  intro X hP hw hK hc i pins s σ H E I hf p hg;subst hP hw hK;refine pY (hf it (by simp)) fun f0 f1 f2 f3 f4 f5=>?_;have W:=Walks.range (prog:=X.prog) (w:=X.w) (I.ok.hd hc) it lo 1 n;refine W.item i s _ _ hg p fun v h' tk hv st' kk=>?_;obtain⟨t,rfl⟩:=hv;have I1:Inv X pins σ H {s with heap:=h',toks:=tk}:=I.turned (fun b o hb e=>kk b o (by simpa using hb) e) f0 f1 f3 f4 f5
  refine⟨_,rfl,wq (s:={s with heap:=h',toks:=tk}) (n:= "range_iterator") st' rfl rfl (by decide) (xW (.int (lo+i)) H I1 ⟨t,?_⟩ ⟨rfl,rfl⟩ st' (fun b hb=>(hf b hb).1))⟩
  rw[Int.mul_one]
 done:=by
  intro X hP hw hK hc i pins s σ H E I hf p hg;subst hP hw hK;refine pY (hf it (by simp)) fun f0 f1 f2 f3 f4 f5=>?_;exact wpAny_pyNext_range_end (I.ok.hd hc) p (by have:n≤i:=hg;omega) fun h' eb=>⟨rfl,I.turned (t':=s.toks) (fun b o hb e=>eb b o hb e) f0 f1 f3 f4 f5⟩
 self:=fun _ _ _ _ _ p h=>wpAny_pyIter_rangeiter p h
section
variable{X:Cx}{tg:Expr}
noncomputable def Hy (K:W.Frag)(tl:TE):TI:=fun σ H R=>tl σ H fun x H1=>∃a,x= .ref a∧(∃xs,gC K H1 a xs)∧R (Ex K a) H1
noncomputable def Jm (K:W.Frag)(tl:TE):TI:=fun σ H R=>tl σ H fun x H1=>∃a,x= .ref a∧(∃xs,nk K H1 a xs)∧R (IR K a) H1
theorem wJ {l:Expr}{tl:TE}(hl:PE X l tl):PI X tg l (Hy X.K tl):=by
 intro pins s σ H R I h;refine aO (hl pins s σ H _ I h) fun v s1 hZ57=>?_;refine cps fun PP kP=>?_;obtain⟨x,H1,I1,r1,q1⟩:=hZ57;refine cj (q1) fun a e hS5 q=>?_;obtain⟨xs,hq⟩:=hS5;refine kP ?_;clear kP PP;subst e;cases r1;refine cj (I1.list hq) fun its rv p hz=>?_;refine wpAny_pyIter_list p.isList ?_;refine⟨s1.heap.objs.size,[s1.heap.objs.size],_,_,H1,rfl,I1.kept (t':=s1.toks) fun b o e=>Heap.get?_push_of_some _ e,yF a _,(gW _ (Heap.get?_push_size _ rfl) rfl rfl),fun b hb=>?_,q⟩;have e:b=s1.heap.objs.size:=by simpa using hb
 subst e;exact I1.fpOk (le_refl _) (I1.hok.fresh (le_refl _))
theorem Go {l:Expr}{tl:TE}(hl:PE X l tl):PI X tg l (Jm X.K tl):=by
 intro pins s σ H R I h;refine aO (hl pins s σ H _ I h) fun v s1 hZ58=>?_;refine cps fun PP kP=>?_;obtain⟨x,H1,I1,r1,q1⟩:=hZ58;refine cj (q1) fun a e hS6 q=>?_;obtain⟨xs,hq⟩:=hS6;refine kP ?_;clear kP PP;subst e;cases r1;refine cj (I1.tuple hq) fun its rv p hz=>?_;refine wpAny_pyIter_tuple (show s1.heap.IsTuple a its.toArray from p) ?_;refine⟨s1.heap.objs.size,[s1.heap.objs.size],_,_,H1,rfl,I1.kept (t':=s1.toks) fun b o e=>Heap.get?_push_of_some _ e,vT a _,(gW _ (Heap.get?_push_size _ rfl) rfl rfl),fun b hb=>?_,q⟩;have e:b=s1.heap.objs.size:=by simpa using hb
 subst e;exact I1.fpOk (le_refl _) (I1.hok.fresh (le_refl _))
theorem ue {pins:List (Addr×Obj)}{σ:St}{H:Hp}{s:Shared}{R:It→Hp→Prop}{E:Value→Shared→Prop}{lo hi:Int}{t u v:Tok}{tk:Nat}(I:Inv X pins σ H s)(h1: -(2 ^ 62)≤lo)(h2:lo<2 ^ 62)(h3: -(2 ^ 62)≤hi)(h4:hi<2 ^ 62)
  (q:R (Ha lo (hi-lo).toNat) H):wpAny (model X.prog X.w) X.A (pyIter (.ref s.heap.objs.size)) (PIE X pins σ tg R) E {s with heap:=s.heap.push {cls:=.type "range",data:=.fields #[.int lo t,.int hi u,.int 1 v]},toks:=tk}:=by
 refine wpAny_pyIter_range (IsRange.new ..) (small_one h1 h2 h3 h4) ?_;have I1:Inv X pins σ H {s with heap:=s.heap.push {cls:=.type "range",data:=.fields #[.int lo t,.int hi u,.int 1 v]},toks:=tk}:=I.kept fun b o e=>Heap.get?_push_of_some _ e
 refine⟨(s.heap.push {cls:=.type "range",data:=.fields #[.int lo t,.int hi u,.int 1 v]}).objs.size,[(s.heap.push {cls:=.type "range",data:=.fields #[.int lo t,.int hi u,.int 1 v]}).objs.size],_,_,H,rfl,
  I1.kept (t':=tk) fun b o e=>Heap.get?_push_of_some _ e,vS _ lo (hi-lo).toNat,?_,fun b hb=>?_,q⟩
 ·have e1:lo+((0:Nat):Int)*1=lo:=by simp
  have e2:(((hi-lo).toNat:Nat):Int)-((0:Nat):Int)=Builtin.Range.rangeSize lo hi 1:=by rw[rangeSize_one];split <;> omega
  show IsRangeIter _ _ (lo+((0:Nat):Int)*1) ((((hi-lo).toNat:Nat):Int)-((0:Nat):Int)) 1;rw[e1,e2];exact Heap.get?_push_size _ rfl
 ·have e:b=(s.heap.push {cls:=.type "range",data:=.fields #[.int lo t,.int hi u,.int 1 v]}).objs.size:=by simpa using hb
  subst e;exact I1.fpOk (le_refl _) (I1.hok.fresh (le_refl _))
noncomputable def Hz (ta:TA):TI:=fun σ H R=>ta σ H fun vs H1=>∃j:Int,vs=[.int j]∧ -(2 ^ 62)≤j∧j<2 ^ 62∧R (Ha 0 j.toNat) H1
noncomputable def HA (ta:TA):TI:=fun σ H R=>ta σ H fun vs H1=>∃i j:Int,vs=[.int i,.int j]∧(-(2 ^ 62)≤i∧i<2 ^ 62∧ -(2 ^ 62)≤j∧j<2 ^ 62)∧R (Ha i (j-i).toNat) H1
theorem qx {a:Expr}{ta:TA}{p pos:Pos}(hg:Gl X "range")(hm:X.mg "range" =none)(ha:PA X [a] ta)(hs:starEach [a] X.env=[(false,eval a X.env)]:=by rfl):PI X tg (.Call (.Name "range" p) [a] [] pos) (Hz ta):=by
 intro pins s σ H R I h;refine Call_ (ju I hg hm boot_range (PyProof.Rows.callWith_type1 (aO (ha pos pins s σ H _ I h) fun us s1 hZ59=>?_) hs rfl));refine cps fun PP kP=>?_;obtain⟨vs,H1,I1,r1,q1⟩:=hZ59;obtain⟨j,e,q1,q2,q⟩:=q1;refine kP ?_;clear kP PP;subst e;cases r1 with
 |cons r rr=>
  cases rr;obtain⟨t,rfl⟩:=r;exact call_range_1 (ue I1 (by omega) (by omega) q1 q2 (by simpa using q))
theorem yn {a b:Expr}{ta:TA}{p pos:Pos}(hg:Gl X "range")(hm:X.mg "range" =none)(ha:PA X [a,b] ta)(hs:starEach [a,b] X.env=[(false,eval a X.env),(false,eval b X.env)]:=by rfl)(hs2:starEach [b] X.env=[(false,eval b X.env)]:=by rfl) :
  PI X tg (.Call (.Name "range" p) [a,b] [] pos) (HA ta):=by
 intro pins s σ H R I h;refine Call_ (ju I hg hm boot_range (PyProof.Rows.callWith_type1 (aO (ha pos pins s σ H _ I h) fun us s1 hZ60=>?_) (by rw[hs,hs2]) (by rw[hs2];rfl)));refine cps fun PP kP=>?_;obtain⟨vs,H1,I1,r1,q1⟩:=hZ60;obtain⟨i,j,e,⟨q1,q2,q3,q4⟩,q⟩:=q1;refine kP ?_;clear kP PP;subst e;cases r1 with
 |cons r rr=>
  cases rr with
  |cons r' rr=>
   cases rr;obtain⟨t,rfl⟩:=r;obtain⟨t',rfl⟩:=r';exact call_range_2 (ue I1 q1 q2 q3 q4 q)
noncomputable def JG (wi:TI)(g:TG)(tb:TS):TS:=fun D σ H=>wi σ H fun J H1=>∃W:Nat→Nat→St→Hp→Prop,(∃m,W 0 m σ H1)∧∀i m σ H,W i m σ H→
 (J.stop i H∧D.nx σ H)∨(J.go i H∧∃N:St→Hp→Prop,(∀σ' H',N σ' H'→∃m',m'<m∧W (i+1) m' σ' H')∧∀x H',J.yld i H x H'→g x σ H' fun σ2 H2=>tb {D with nx:=N,ct:=N,bk:=D.nx} σ2 H2)
noncomputable def mr (fp:List Addr)(h:Heap):List (Addr×Obj):=fp.filterMap fun b=>(h.get? b).map fun o=>(b,o)
theorem dY {fp:List Addr}{h:Heap}{b:Addr}{o:Obj}(hb:b∈fp)(e:h.get? b=some o):(b,o)∈mr fp h:=mem_filterMap.mpr ⟨b,hb,by rw[e];rfl⟩
theorem yh {fp:List Addr}{h:Heap}{p:Addr×Obj}(hp:p∈mr fp h):p.1∈fp∧h.get? p.1=some p.2:=by
 obtain⟨b,hb,e⟩:=mem_filterMap.mp hp;cases q:h.get? b with
 |none=>rw[q]at e;cases e
 |some o=>
  rw[q]at e;have e':(b,o)=p:=Option.some.inj e;subst e';exact⟨hb,q⟩
theorem Inv.pinned {pins:List (Addr×Obj)}{σ:St}{H:Hp}{s:Shared}{fp:List Addr}(I:Inv X pins σ H s)(hf:∀b∈fp,i5 X pins H b)(ho:∀b∈fp,∃o,s.heap.get? b=some o∧∀v,o.data≠ .cell v):Inv X (pins ++ mr fp s.heap) σ H s:=
 I.pins_of fun p hp=>(mem_append.mp hp).elim (fun z=>I.pin p (mem_append_right _ z)) fun z=>by
  refine cps fun PP kP=>?_;obtain⟨hb,e⟩:=yh z;refine mE (hf p.1 hb) fun f0 f1 f2 _=>?_;obtain⟨o,e',d⟩:=ho p.1 hb;refine kP ?_;clear kP PP;rw[e]at e';cases e';exact(u9 e f0 f1 f2 d)
theorem Inv.unpinned {pins pl:List (Addr×Obj)}{σ:St}{H:Hp}{s:Shared}(I:Inv X (pins ++ pl) σ H s):Inv X pins σ H s:=I.pins_of fun p hp=>I.pin p (mem_append_right _ (mem_append_left _ hp))
theorem Gw {iter:Expr}{body:List Stmt}{wi:TI}{g:TG}{tb:TS}{pos:Pos}(hp:PassesOwn (model X.prog X.w) X.A X.env X.xe)(hc:X.calm=true)(hi:PI X tg iter wi)(hg:PG X tg g)(hb:GX X body tb)
  (hs:∀x,foldedSetIterable iter X.env x=pure x:=by intro _;rfl):PS X (.For tg iter body [] pos) (JG wi g tb):=by
 intro p s σ H D I h;refine wpAny_For (aO (hi p s σ H _ I h) fun v s1 h1=>aO h1 fun itv s2 h2=>?_) hs;obtain⟨it,fp,tn,J,H2,e,I2,T,st2,f2,W,⟨m0,w0⟩,turn⟩:=h2;subst e
 -- what stays true of the iterator's objects through the loop
 have t:∀{H':Hp},(∀b∈fp,H' b=none)→∀b∈fp,i5 X p H' b:=fun hn b hb=>⟨hn b hb,(f2 b hb).2⟩;refine codeAny_forLoop_any (fun n s'=>∃i σ' H',Inv X p σ' H' s'∧tn i s'.heap∧(∀b∈fp,H' b=none)∧W i n σ' H') ?_ m0 (jb 0 σ H2 I2 st2 (fun b hb=>(f2 b hb).1) w0);intro n s3 hZ1;refine ja (hZ1) fun i C H3 I3 st3 fr3 w3=>?_
 rcases turn i n C H3 w3 with ⟨stop,qn⟩|⟨go,N,hN,step⟩
 ·refine wpAny_passesOwn hp (aO (T.done X rfl rfl rfl hc i p s3 C H3 X.xe I3 (t fr3) st3 stop) fun r s4 hZ61=>?_);obtain⟨hr,I4⟩:=hZ61;subst hr;exact wpAny_execs_nil ⟨C,H3,I4,qn⟩
 ·refine wpAny_passesOwn hp (aO (T.item X rfl rfl rfl hc i p s3 C H3 X.xe I3 (t fr3) st3 go) fun r s4 hZ62=>?_);obtain⟨u,hr,h4⟩:=hZ62;subst hr;refine wpAny_passesOwn hp (aO h4 fun _ s5 hZ63=>?_);refine GR (hZ63) fun x H5 I5 r5 y5 st5 fr5=>?_;have I5':=I5.pinned (t fr5) (T.obj _ _ st5);refine wpAny_passesOwn hp (aO (hg _ s5 C H5 x u _ I5' r5 (step x H5 y5)) fun _ s6 hZ64=>?_);obtain⟨σ6,H6,I6,q6⟩:=hZ64;refine wpAny_passesOwn hp (aO (hb _ s6 σ6 H6 _ I6 q6) fun f s7 q7=>?_);have y:∀{q:St} {B:Hp},Inv X (p ++ mr fp s5.heap) q B s7→N q B→∃m,m<n∧∃i σ' H',Inv X p σ' H' s7∧tn i s7.heap∧(∀b∈fp,H' b=none)∧W i m σ' H':=fun {q B} z n7=>by
   obtain⟨m',hm,w7⟩:=hN q B n7;refine⟨m',hm,i+1,q,B,z.unpinned,T.keep _ _ _ st5 fun b hb o e=>(z.pin (b,o) (mem_append_right _ (mem_append_right _ (dY hb e)))).1,fun b hb=>?_,w7⟩;obtain⟨o,e,d⟩:=T.obj _ _ st5 b hb;exact(z.pin (b,o) (mem_append_right _ (mem_append_right _ (dY hb e)))).2.1
  cases f with
  |next=>obtain⟨q,B,z,n7⟩:=q7;exact y z n7
  |cont=>obtain⟨q,B,z,n7⟩:=q7;exact y z n7
  |brk=>obtain⟨q,B,z,q7⟩:=q7;exact⟨q,B,z.unpinned,q7⟩
  |ret v=>obtain⟨x7,q,B,z,r7,q7⟩:=q7;exact⟨x7,q,B,z.unpinned,r7,q7⟩
end
theorem zt {K:W.Frag}{a:Addr}{xs:List V}{g:TG}{tb:TS}{D:Ends}{σ:St}{H:Hp}(Pv:Nat→St→Hp→Prop)(h0:Pv 0 σ H)(hl:∀i σ H,i≤xs.length→Pv i σ H→gC K H a xs)
  (hs:∀i x σ H,xs[i]?=some x→Pv i σ H→g x σ H fun σ2 H2=>tb {D with nx:=Pv (i+1),ct:=Pv (i+1),bk:=D.nx} σ2 H2) (hd:∀σ H,Pv xs.length σ H→D.nx σ H) :
  ∃W:Nat→Nat→St→Hp→Prop,(∃m,W 0 m σ H)∧∀i m σ H,W i m σ H→
   ((Ex K a).stop i H∧D.nx σ H)∨((Ex K a).go i H∧∃N:St→Hp→Prop,(∀σ' H',N σ' H'→∃m',m'<m∧W (i+1) m' σ' H')∧∀x H',(Ex K a).yld i H x H'→g x σ H' fun σ2 H2=>tb {D with nx:=N,ct:=N,bk:=D.nx} σ2 H2):=by
 refine⟨fun i m σ H=>m=xs.length-i∧i≤xs.length∧Pv i σ H,(gW xs.length (by simp) (zero_le _) h0),?_⟩;intro i m σ H hZ2;obtain⟨rfl,hi,p⟩:=hZ2;have q:=hl i σ H hi p;by_cases hlt:i<xs.length
 ·refine .inr (oC (l8 xs (xs[i]) q (by simp[hlt])) (Pv (i+1)) (fun σ' H' p'=>(zH (xs.length-(i+1)) (by omega) rfl hlt p')) (fun x H' y=>?_));obtain⟨e,y⟩:=y;subst e;exact hs i x σ _ (y xs q) p
 ·have e:i=xs.length:=by omega
  subst e;exact .inl ⟨⟨xs,q,le_refl _⟩,hd σ H p⟩
noncomputable abbrev R2:=V→V→Hp→VK→Prop
noncomputable def sI (X:Cx)(f:Value→Value→Sem Value)(r:R2):Prop:=
 ∀(pins:List (Addr×Obj)) (s:Shared) (σ:St) (H:Hp) (x y:V) (v u:Value) (Q:VK),Inv X pins σ H s→RelV x v→RelV y u→r x y H Q→
  wpAny (model X.prog X.w) X.A (f v u) (EP X pins σ Q) X.xe s
noncomputable def JP (X:Cx)(f:Value→Sem Value)(r:V→Hp→VK→Prop):Prop:=
 ∀(pins:List (Addr×Obj)) (s:Shared) (σ:St) (H:Hp) (x:V) (v:Value) (Q:VK),Inv X pins σ H s→RelV x v→r x H Q→
  wpAny (model X.prog X.w) X.A (f v) (EP X pins σ Q) X.xe s
noncomputable def eD (X:Cx)(f:Value)(r:List V→Hp→VK→Prop):Prop:=
 ∀(pins:List (Addr×Obj)) (s:Shared) (σ:St) (H:Hp) (xs:List V) (us:List Value) (Q:VK),Inv X pins σ H s→Vals xs us→r xs H Q→
  wpAny (model X.prog X.w) X.A (call f us) (EP X pins σ Q) X.xe s
noncomputable def JS (r:R2)(ta tb:TE):TE:=fun σ H Q=>ta σ H fun x H1=>tb σ H1 fun y H2=>r x y H2 Q
noncomputable def rI (C:Int→Int→Prop)(g:Int→Int→V):R2:=fun x y H Q=>∃i j,x= .int i∧y= .int j∧C i j∧Q (g i j) H
noncomputable def Ep (g:Int→Int→V):R2:=fun x y H Q=>∃i j,x= .int i∧y= .int j∧Q (g i j) H
noncomputable def rU (g:Int→V):V→Hp→VK→Prop:=fun x H Q=>∃i,x= .int i∧Q (g i) H
section
variable{X:Cx}{a b c:Expr}{ta tb tc:TE}{pos:Pos}
theorem Ji (ha:PE X a ta)(hb:PE X b tb){pins:List (Addr×Obj)}{s:Shared}{σ:St}{H:Hp}{R:V→V→Hp→Prop}(I:Inv X pins σ H s)
  (h:ta σ H fun x H1=>tb σ H1 fun y H2=>R x y H2) {Q:Value→Shared→Prop} {f:Value→Value→Sem Value}
  (hf:∀v u s2 x y H2,Inv X pins σ H2 s2→RelV x v→RelV y u→R x y H2→wpAny (model X.prog X.w) X.A (f v u) Q X.xe s2) :
  wpAny (model X.prog X.w) X.A (eval a X.env) (fun v s₁=>wpAny (model X.prog X.w) X.A (eval b X.env) (fun u s₂=>wpAny (model X.prog X.w) X.A (f v u) Q X.xe s₂) X.xe s₁) X.xe s:=by
 refine aO (ha pins s σ H _ I h) fun v s1 hZ65=>?_;obtain⟨x,H1,I1,r1,q1⟩:=hZ65;refine aO (hb pins s1 σ H1 _ I1 q1) fun u s2 hZ66=>?_;obtain⟨y,H2,I2,r2,q2⟩:=hZ66;exact hf v u s2 x y H2 I2 r1 r2 q2
theorem Jw {f:Value→Value→Sem Value}{C:Int→Int→Prop}{g:Int→Int→Int}
  (rule:∀(i j:Int) (t u:Tok) (s:Shared) (Q:Value→Shared→Prop) (E:Value→Shared→Prop),C i j→Q (.int (g i j) s.toks) {s with toks:=s.toks+1}→wpAny (model X.prog X.w) X.A (f (.int i t) (.int j u)) Q E s) :
  sI X f (rI C fun i j=>.int (g i j)):=by
 intro pins s σ H x y v u Q I rx ry h;refine cps fun PP kP=>?_;refine pG (h) fun i j hS7 hS8 hc q=>?_;subst hS7;subst hS8;obtain⟨t,rfl⟩:=rx;obtain⟨t',rfl⟩:=ry;refine kP ?_;clear kP PP;exact rule i j t t' s _ _ hc ⟨.int (g i j),H,I.tok _,⟨_,rfl⟩,q⟩
theorem Ik {f:Value→Value→Sem Value}{g:Int→Int→Int}
  (rule:∀(i j:Int) (t u:Tok) (s:Shared) (Q:Value→Shared→Prop) (E:Value→Shared→Prop),Q (.int (g i j) s.toks) {s with toks:=s.toks+1}→wpAny (model X.prog X.w) X.A (f (.int i t) (.int j u)) Q E s) :
  sI X f (Ep fun i j=>.int (g i j)):=by
 intro pins s σ H x y v u Q I rx ry h;refine cps fun PP kP=>?_;refine bA (h) fun i j hS9 hS10 q=>?_;subst hS9;subst hS10;obtain⟨t,rfl⟩:=rx;obtain⟨t',rfl⟩:=ry;refine kP ?_;clear kP PP;exact rule i j t t' s _ _ ⟨.int (g i j),H,I.tok _,⟨_,rfl⟩,q⟩
theorem FV {f:Value→Value→Sem Value}{g:Int→Int→Bool}
  (rule:∀(i j:Int) (t u:Tok) (s:Shared) (Q:Value→Shared→Prop) (E:Value→Shared→Prop),Q (.bool (g i j)) s→wpAny (model X.prog X.w) X.A (f (.int i t) (.int j u)) Q E s) :
  sI X f (Ep fun i j=>.bl (g i j)):=by
 intro pins s σ H x y v u Q I rx ry h;refine cps fun PP kP=>?_;refine bA (h) fun i j hS11 hS12 q=>?_;subst hS11;subst hS12;obtain⟨t,rfl⟩:=rx;obtain⟨t',rfl⟩:=ry;refine kP ?_;clear kP PP;exact rule i j t t' s _ _ ⟨.bl (g i j),H,I,rfl,q⟩
noncomputable def yQ (i j:Int):Prop:=0<j∧j<1073741824
noncomputable def CMul (i j:Int):Prop:=(-(2 ^ 64)<i∧i<2 ^ 64)∨(-(2 ^ 64)<j∧j<2 ^ 64)
theorem CMul.ok {i j:Int}(h:CMul i j):IntMulOk i j:=by
 rcases h with ⟨h1,h2⟩|⟨h1,h2⟩
 ·exact .of_left (intBits_le_64 h1 h2)
 ·exact .of_right (intBits_le_64 h1 h2)
theorem FW:sI X (binaryOp .Add) (Ep fun i j=>.int (i+j)):=Ik fun _ _ _ _ _ _ _ q=>add_int q
theorem Ga:sI X (binaryOp .Sub) (Ep fun i j=>.int (i-j)):=Ik fun _ _ _ _ _ _ _ q=>sub_int q
theorem FZ:sI X (binaryOp .Mult) (rI CMul fun i j=>.int (i*j)):=Jw fun _ _ _ _ _ _ _ hc q=>mul_int q hc.ok
theorem CQ:sI X (binaryOp .FloorDiv) (rI yQ fun i j=>.int (i / j)):=Jw fun i j _ _ _ _ _ hc q=>by
 have h1:(0:Int)<j:=hc.1;have h2:j<1073741824:=hc.2;exact floordiv_int (by omega) (by rw[Int.fdiv_eq_ediv_of_nonneg i (by omega)];exact q) (.inl (PyProof.noPylong_small (by omega)))
theorem FY:sI X (binaryOp .Mod) (rI (fun _ j=>0<j) fun i j=>.int (i % j)):=Jw fun i j _ _ _ _ _ hc q=>by
 have h1:(0:Int)<j:=hc;exact mod_int' (by omega) (by rw[Int.fmod_eq_emod_of_nonneg i (by omega)];exact q)
theorem J_ {f:Value→Sem Value}{g:Int→Int}
  (rule:∀(i:Int) (t:Tok) (s:Shared) (Q:Value→Shared→Prop) (E:Value→Shared→Prop),Q (.int (g i) s.toks) {s with toks:=s.toks+1}→wpAny (model X.prog X.w) X.A (f (.int i t)) Q E s) :
  JP X f (rU fun i=>.int (g i)):=by
 intro pins s σ H x v Q I rx h;obtain⟨i,rfl,q⟩:=h;obtain⟨t,rfl⟩:=rx;exact rule i t s _ _ ⟨.int (g i),H,I.tok _,⟨_,rfl⟩,q⟩
theorem GN:JP X (unaryOp .USub) (rU fun i=>.int (-i)):=J_ fun _ _ _ _ _ q=>neg_int q
theorem Io:sI X (compareOp .Lt) (Ep fun i j=>.bl (decide (i<j))):=FV fun _ _ _ _ _ _ _ q=>lt_int q
theorem Im:sI X (compareOp .LtE) (Ep fun i j=>.bl (decide (i≤j))):=FV fun _ _ _ _ _ _ _ q=>le_int q
theorem Il:sI X (compareOp .Gt) (Ep fun i j=>.bl (decide (j<i))):=FV fun _ _ _ _ _ _ _ q=>gt_int q
theorem bz (b:Expr){op:CmpOp}(h:op≠ .In:=by decide)(h2:op≠ .NotIn:=by decide):behindInMarks op b=false:=by
 have e1:(op==CmpOp.In)=false:=by cases op <;> first|rfl|exact absurd rfl h
 have e2:(op==CmpOp.NotIn)=false:=by cases op <;> first|rfl|exact absurd rfl h2
 cases b <;> simp[behindInMarks,e1,e2]
theorem oR:(sizeLine:Nat)<2 ^ 63:=by rw[sizeLine_eq];decide
theorem vw:sI X (binaryOp .Add) (fun x y H Q=>∃i j,x= .str i∧y= .str j∧i.length+j.length≤sizeLine∧Q (.str (i ++ j)) H):=by
 intro pins s σ H x y v u Q I rx ry h;refine cps fun PP kP=>?_;refine pG (h) fun i j hS13 hS14 hz q=>?_;subst hS13;subst hS14;obtain⟨t,rfl⟩:=rx;obtain⟨t',rfl⟩:=ry;refine kP ?_;clear kP PP;exact add_str (fun t' tk=>⟨.str (i ++ j),H,I.tok _,⟨_,rfl⟩,q⟩) hz
theorem ke {x:V}{us:List Value}(r:Vals [x] us):∃u,us=[u]∧RelV x u:=by
 cases r with
 |cons r1 r2=>cases r2;exact⟨_,rfl,r1⟩
theorem Bh {x y:V}{us:List Value}(r:Vals [x,y] us):∃u w',us=[u,w']∧RelV x u∧RelV y w':=by
 cases r with
 |cons r1 r2=>
  cases r2 with
  |cons r3 r4=>cases r4;exact(dR _ _ rfl r1 r3)
theorem xl (hc:X.calm=true):eD X (.builtin "max") (fun xs H Q=>∃i j,xs=[.int i,.int j]∧Q (.int (if j>i then j else i)) H):=by
 intro pins s σ H xs us Q I r h;refine cps fun PP kP=>?_;refine mV (h) fun i j hS15 q=>?_;subst hS15;refine bA (Bh r) fun u w' hS16 hS17 hS18=>?_;subst hS16;obtain⟨t,rfl⟩:=hS17;obtain⟨t',rfl⟩:=hS18;refine kP ?_;clear kP PP;refine max_two_ints (I.ok.hd hc) fun h' tk k=>⟨_,H,I.kept k,?_,q⟩;by_cases hj:j>i
 ·rw[if_pos hj,if_pos hj];exact⟨_,rfl⟩
 ·rw[if_neg hj,if_neg hj];exact⟨_,rfl⟩
end
structure ObjM (h:Heap)(x dx C:Addr)(mA:Str→Option Value):Prop where
 obj:h.get? x=some (W.instObj C dx)
 ns:h.Ns1 dx mA
 ne:dx≠x
theorem yb {h:Heap}{dx:Addr}{mA:Str→Option Value}(n:h.Ns1 dx mA):∃od,h.get? dx=some od∧∀name,W.lookIn name od=some (mA name):=by
 refine ie (n) fun o es ep ho hd hk _ hm=>?_;refine⟨o,ho,fun name=>?_⟩;have e:=hm name;unfold nsFind findBy at e;rw[←Array.find?_toList]at e;unfold W.lookIn;rw[hd];dsimp only;split
 ·rename_i y q;rw[q]at e;exact congrArg some e
 ·rename_i q;rw[q]at e;have a:es.toList.any (·.refKey)=false:=by
   rw[List.any_eq_false];intro y hy;obtain⟨z,t,hkey⟩:=hk y (Array.mem_toList_iff.mp hy);simp[DictEntry.refKey,hkey]
  have a':¬es.toList.any (·.refKey)=true:=by rw[a];exact Bool.false_ne_true
  rw[if_neg a'];exact congrArg some e
theorem ObjM.look {h:Heap}{x dx C:Addr}{mA:Str→Option Value}(I:ObjM h x dx C mA):∃od,W.InstAt h x (W.instObj C dx) C (some od)∧∀name,W.lookIn name od=some (mA name):=
 let ⟨od,ho,hl⟩:=yb I.ns
 ⟨od,⟨I.obj,rfl,rfl,ho⟩,hl⟩
section
variable{prog:Program}{w:World}{A:Around}{E:Value→Shared→Prop}{s:Shared}{K:W.Frag}{x dx C f:Addr}{mA:Str→Option Value}{name:Str}{v:Value}
theorem Ct {expr:Bool}{Q:Value→Shared→Prop}(X:K.In s.heap)(I:ObjM s.heap x dx C mA)(hg:W.plainGet K C name=true)(hh:W.hasDictIn K C=true)
  (ha:W.findIn K (.ref C) name=some none) (hv:mA name=some v) (hv':W.handedIn v=true) (h:Q v {s with toks:=s.toks+1}) :
  wpAny (model prog w) A (getAttr (.ref x) name expr) Q E s:=by
 obtain⟨od,J,hl⟩:=I.look;exact W.get_value X J (W.plainGet_of hg).1 (W.findObj_own hh ha rfl (by rw[hl,hv])) hv' h
theorem zB {pl:Sem Bool}{Q:Value×List Value→Shared→Prop}(X:K.In s.heap)(I:ObjM s.heap x dx C mA)(hg:W.plainGet K C name=true)
  (hf:W.findIn K (.ref C) name=some (some (.ref f))) (ht:W.isFn K (.ref f)=true) (hv:mA name=none) (h:Q (.ref f,[.ref x]) s) :
  wpAny (model prog w) A (getMethod (.ref x) name pl) Q E s:=by
 obtain⟨od,J,hl⟩:=I.look;exact W.method_fn X J (W.plainGet_of hg).1 (W.plainGet_of hg).2 hf (beq_iff_eq.mp ht) (by show (W.lookIn name od).map (·.isSome)=some false;rw[hl,hv];rfl) h
theorem DC {ns:List Str}{Q:Unit→Shared→Prop}(X:K.In s.heap)(I:ObjM s.heap x dx C mA)
  (hs:W.findIn K (.ref C) "__setattr__" =some (some (.builtin "object.__setattr__"))) (hp:W.plainOver K C=true) (ht:W.takerIn K C name=some none) (hh:W.hasDictIn K C=true)
  (hw:PySem.Within mA ns) (hsz:ns.length≤sizeLine)
  (h:∀h',ObjM h' x dx C (fun y=>if y=name then some v else mA y)→Heap.SameBut dx s.heap h'→Q () {s with heap:=h',toks:=s.toks+2}) :
  wpAny (model prog w) A (setAttr (.ref x) name v) Q E s:=by
 obtain⟨od,J,hl⟩:=I.look;refine W.set_plain X J hs (W.osa_open (s:={s with toks:=s.toks+1}) (r:=none) X J hp ht fun b=>?_)
 obtain⟨cd,hc,hd'⟩:=W.any_some hh;have hx:s.heap.get? x=some ⟨.ref C,some dx,.plain,#[]⟩:=I.obj;refine wpAny_bind (wpAny_pure (wpAny_bind (wpAny_bind (wpAny_loadPart hx (wpAny_bind (W.Looks.here (s:={s with toks:=s.toks+1}) (W.looks_clsIn X hc) ?_))))))
 rw[hd'];refine wpAny_pure (a:=some dx) (wpAny_bind (wpAny_pure (wpAny_bind ?_)));refine wpAny_nsSet1 (s:={s with toks:=s.toks+1}) I.ns fun h' hn2 hs2=>?_
 refine m9 (hn2.count (PySem.Within.cons name v hw)) fun oD esD epD hoD hdD hcD=>?_;refine wpAny_bind (wpAny_lookBehind hoD (by rw[hdD];exact pastItsLine_dict (le_trans hcD (by rw[length_cons];omega))) ?_);exact wpAny_pure (h _ ⟨(hs2.2 _ (Ne.symm I.ne)).trans I.obj,hn2,I.ne⟩ hs2)
theorem zY {R:Result→Shared→Prop}{vs:List Value}{kw:List (Str×Value)}(X:K.In s.heap)(hm:W.makesIn K C=true)
  (hi:W.findIn K (.ref C) "__init__" =some (some (.ref f))) (hf:W.typeIn K (.ref f)=some (.type "function"))
  (h:codeAny (model prog w) (A.under (.builtin "type.__call__" ⟨.ref C::vs,kw⟩)) (.call (.ref f) ⟨.ref (s.heap.objs.size+1)::vs,kw⟩) (W.InitBack (s.heap.objs.size+1) R)
   {s with heap:=(s.heap.push W.emptyDict).push (W.instObj C s.heap.objs.size)}) :
  codeAny (model prog w) A (.call (.ref C) ⟨vs,kw⟩) R s:=by
 obtain⟨hh,g,d,t,os⟩:=s;exact W.make_core (W.makes_of X hm) (W.looks_findIn X hi) (fun self=>W.bind_fn X self hf) (.inl rfl) h
end
noncomputable def iR (f:Str)(v:V):List (Str×V)→List (Str×V)
 | []=>[(f,v)]
 |(g,x)::r=>if g=f then (g,v)::r else (g,x)::iR f v r
theorem mN (f g:Str)(v:V):∀fs:List (Str×V),(iR f v fs).lookup g=if g=f then some v else fs.lookup g
 | []=>by
  show List.lookup g [(f,v)]=_;by_cases h:g=f
  ·have w:(g==f)=true:=beq_iff_eq.mpr h;simp only[List.lookup,w,if_pos h]
  ·have w:(g==f)=false:=beq_eq_false_iff_ne.mpr h;simp only[List.lookup,w,if_neg h]
 |(k,x)::r=>by
  have ih:=mN f g v r;rw[show iR f v ((k,x)::r)=(if k=f then (k,v)::r else (k,x)::iR f v r) from rfl]
  by_cases hk:k=f
  ·rw[if_pos hk];by_cases h:g=k
   ·have w:(g==k)=true:=beq_iff_eq.mpr h;simp only[List.lookup,w,if_pos (h.trans hk)]
   ·have w:(g==k)=false:=beq_eq_false_iff_ne.mpr h;simp only[List.lookup,w,if_neg (fun e:g=f=>h (e.trans hk.symm))]
  ·rw[if_neg hk];by_cases h:g=k
   ·have w:(g==k)=true:=beq_iff_eq.mpr h;simp only[List.lookup,w,if_neg (fun e:g=f=>hk (h.symm.trans e))]
   ·have w:(g==k)=false:=beq_eq_false_iff_ne.mpr h;simp only[List.lookup,w];exact ih
theorem mf (f:Str)(v:V):∀fs:List (Str×V),f∈(iR f v fs).map (·.1)∧∀g,g∈fs.map (·.1)→g∈(iR f v fs).map (·.1)
 | []=>⟨by simp[iR],fun g h=>by simp at h⟩
 |(k,x)::r=>by
  obtain⟨i1,i2⟩:=mf f v r;rw[show iR f v ((k,x)::r)=(if k=f then (k,v)::r else (k,x)::iR f v r) from rfl]
  by_cases hk:k=f
  ·rw[if_pos hk];subst hk;exact⟨by simp,fun g h=>by simpa using h⟩
  ·rw[if_neg hk];refine⟨?_,fun g h=>?_⟩
   ·rw[map_cons];exact cR i1
   ·rw[map_cons]at h ⊢
    rcases mem_cons.mp h with e|e
    ·exact mem_cons.mpr (.inl e)
    ·exact cR (i2 g e)
theorem mJ (f:Str)(v:V):∀fs:List (Str×V),(iR f v fs).length≤fs.length+1
 | []=>by simp[iR]
 |(k,x)::r=>by
  have ih:=mJ f v r;rw[show iR f v ((k,x)::r)=(if k=f then (k,v)::r else (k,x)::iR f v r) from rfl]
  by_cases hk:k=f
  ·rw[if_pos hk,length_cons,length_cons];omega
  ·rw[if_neg hk,length_cons,length_cons];omega
theorem RelO.some_of {v:V}{o:Option Value}(r:RelO (some v) o):∃u,o=some u∧RelV v u:=by
 cases o with
 |none=>exact(show False from r).elim
 |some u=>exact⟨u,rfl,r⟩
theorem RelO.none_of {o:Option Value}(r:RelO none o):o=none:=by
 cases o with
 |none=>rfl
 |some u=>exact(show False from r).elim
theorem xQ {v:V}{u:Value}(r:RelV v u):W.handedIn u=true:=by
 cases v with
 |non=>cases (show u=Value.none from r);rfl
 |bl b=>cases (show u=Value.bool b from r);rfl
 |int i=>obtain⟨t,e⟩:=(show ∃t,u=Value.int i t from r);cases e;rfl
 |str x=>obtain⟨t,e⟩:=(show ∃t,u=Value.str x t from r);cases e;rfl
 |byt b=>obtain⟨t,e⟩:=(show ∃t,u=Value.bytes b t from r);cases e;rfl
 |flt b=>obtain⟨t,e⟩:=(show ∃t,u=Value.float b t from r);cases e;rfl
 |ref a=>cases (show u=Value.ref a from r);rfl
 |ty n=>cases (show u=Value.type n from r);rfl
section
variable{P:Program}{w:World}{H H':Hp}{h h':Heap}{a C dx:Addr}{fs fs':List (Str×V)}
theorem rE (hok:HOk P w H h)(e:H a=some (.ins C dx fs)):∃mA,ObjM h a dx C mA∧(∀f,RelO (fs.lookup f) (mA f))∧PySem.Within mA (fs.map (·.1))∧fs.length≤1000∧H dx=some (.own a):=by
 obtain⟨d,z,ne,ob,mA,n,r,q⟩:=(show ObjOk P w H h a (.ins C dx fs) from hok a _ e);exact(Cw mA ⟨ob,n,ne⟩ r q z d)
end
structure Cls (K:W.Frag)(C:Addr):Prop where
 pg:W.plainGet K C Str.empty=true
 hd:W.hasDictIn K C=true
 po:W.plainOver K C=true
 sa:W.findIn K (.ref C) "__setattr__" =some (some (.builtin "object.__setattr__"))
theorem Cls.get {K:W.Frag}{C:Addr}(c:Cls K C)(f:Str):W.plainGet K C f=true:=c.pg
noncomputable def NoAttr (K:W.Frag)(C:Addr)(f:Str):Prop:=W.findIn K (.ref C) f=some none
theorem NoAttr.taker {K:W.Frag}{C:Addr}{f:Str}(n:NoAttr K C f):W.takerIn K C f=some none:=by
 unfold W.takerIn;rw[show W.findIn K (.ref C) f=some none from n];rfl
structure Meth (K:W.Frag)(C:Addr)(m:Str)(f:Addr):Prop where
 at_:W.findIn K (.ref C) m=some (some (.ref f))
 fn:W.isFn K (.ref f)=true
 kp:W.keepIn K (.ref f)=true
section
variable{X:Cx}{pins:List (Addr×Obj)}{σ:St}{H:Hp}{s:Shared}{a C dx:Addr}{fs:List (Str×V)}{f:Str}{v:V}{A:Around}{E:Value→Shared→Prop}
theorem uY {b:Bool}{Q:Value→Shared→Prop}(I:Inv X pins σ H s)(e:H a=some (.ins C dx fs))(c:Cls X.K C)(n:NoAttr X.K C f)(l:fs.lookup f=some v)
  (h:∀u s',Inv X pins σ H s'→RelV v u→Q u s'):wpAny (model X.prog X.w) A (getAttr (.ref a) f b) Q E s:=by
 refine uD (rE I.hok e) fun mA O r _ _ _=>?_;obtain⟨u,hu,ru⟩:=RelO.some_of (v:=v) (o:=mA f) (by rw[←l];exact r f);exact Ct I.kIn O (c.get f) c.hd n hu (xQ ru) (h u _ (I.tok _) ru)
theorem uZ {m:Str}{g:Addr}{pl:Sem Bool}{Q:Value×List Value→Shared→Prop}(I:Inv X pins σ H s)(e:H a=some (.ins C dx fs))(c:Cls X.K C)(k:Meth X.K C m g)(l:fs.lookup m=none)
  (h:Q (.ref g,[.ref a]) s):wpAny (model X.prog X.w) A (getMethod (.ref a) m pl) Q E s:=by
 refine uD (rE I.hok e) fun mA O r _ _ _=>?_;have hn:mA m=none:=RelO.none_of (by rw[←l];exact r m);exact zB I.kIn O (c.get m) k.at_ k.fn hn h
theorem vL {y:V}{u:Value}{Q:Unit→Shared→Prop}(I:Inv X pins σ H s)(e:H a=some (.ins C dx fs))(c:Cls X.K C)(n:NoAttr X.K C f)(hl:fs.length<1000)(ry:RelV y u)
  (h:∀s',Inv X pins σ (bo H a (.ins C dx (iR f y fs))) s'→Q () s'):wpAny (model X.prog X.w) A (setAttr (.ref a) f u) Q E s:=by
 refine uD (rE I.hok e) fun mA O r wi _ ho=>?_;have hz:(fs.map (·.1)).length≤sizeLine:=by rw[length_map,sizeLine_eq];omega
 refine DC I.kIn O c.sa c.po n.taker c.hd wi hz fun h' O' sb=>h _ ?_;have hd:∃o,h'.get? dx=some o:=let ⟨o,_,_,e',_⟩:=O'.ns;⟨o,e'⟩
 refine I.write (x:=a) (e:=dx) (by rw[e];exact True.intro) (.inr ho) (fun b q hb z=>(sb.2 b hb).trans z) hd ?_;refine(HE (by rw[ak O.ne];exact ho) ?_ O.ne O'.obj _ O'.ns (fun g=>?_) (fun g hg=>?_))
 ·have:=mJ f y fs;omega
 ·show RelO ((iR f y fs).lookup g) (if g=f then some u else mA g)
  rw[mN];by_cases q:g=f
  ·rw[if_pos q,if_pos q];exact ry
  ·rw[if_neg q,if_neg q];exact r g
 ·by_cases q:g=f
  ·rw[q];exact(mf f y fs).1
  ·refine(mf f y fs).2 g (wi g fun z=>hg ?_);show (if g=f then some u else mA g)=none
   rw[if_neg q];exact z
theorem Inv.made (I:Inv X pins σ H s):Inv X pins σ (bo (bo H s.heap.objs.size (.own (s.heap.objs.size+1))) (s.heap.objs.size+1) (.ins C s.heap.objs.size []))
  {s with heap:=(s.heap.push W.emptyDict).push (W.instObj C s.heap.objs.size)}:=by
 have e1:(s.heap.push W.emptyDict).get? s.heap.objs.size=some W.emptyDict:=Heap.get?_push_size s.heap rfl;have e2:((s.heap.push W.emptyDict).push (W.instObj C s.heap.objs.size)).get? (s.heap.objs.size+1)=some (W.instObj C s.heap.objs.size):=by
  have:=Heap.get?_push_size (s.heap.push W.emptyDict) (o:=W.instObj C s.heap.objs.size) rfl;rwa[Heap.size_push]at this
 have e3:(s.heap.push W.emptyDict).Ns s.heap.objs.size (fun _=>none):=(jb W.emptyDict (#[]) _ e1 rfl ((fun e he=>absurd he (by simp))) (fun _=>rfl));have I1:=I.laid (a:=s.heap.objs.size) (o:=.own (s.heap.objs.size+1)) (h':=s.heap.push W.emptyDict) (t':=s.toks) (fun b u q=>Heap.get?_push_of_some _ q) (le_refl _) ⟨_,e1⟩;refine I1.laid (a:=s.heap.objs.size+1) (o:=.ins C s.heap.objs.size []) (t':=s.toks) (fun b u q=>Heap.get?_push_of_some _ q) (Nat.le_of_eq (Heap.size_push _ _)) ?_;have ne:s.heap.objs.size≠s.heap.objs.size+1:=ne_of_lt (lt_succ_self _);refine(HE (by rw[ak ne,au]) (zero_le _) ne e2 (fun _=>none) ((Heap.Ns1.of_empty e3).at fun o q=>Heap.get?_push_of_some _ q) (fun _=>True.intro) (fun y hy=>absurd rfl hy))
theorem BC {prog:Program}{w:World}{env:Env}{e:Expr}{f:Str}{pos:Pos}{s:Shared}{Q:Value→Shared→Prop}(hb:attributeBase e f env (eval e env)=eval e env)
  (h:wpAny (model prog w) A (eval e env) (fun o s₁=>wpAny (model prog w) A (getAttr o f true) Q E s₁) E s):wpAny (model prog w) A (eval (.Attribute e f pos) env) Q E s:=
 Attribute_any_ h (by rw[arm_eval_Attribute,hb])
end
noncomputable def JF (K:W.Frag)(ta:TE)(f:Str):TE:=fun σ H Q=>ta σ H fun x H1=>∃a C dx fs v,x= .ref a∧H1 a=some (.ins C dx fs)∧Cls K C∧NoAttr K C f∧fs.lookup f=some v∧Q v H1
noncomputable def JC (K:W.Frag)(ta tv:TE)(f:Str):TS:=fun D σ H=>tv σ H fun y H1=>ta σ H1 fun x H2=>∃a C dx fs,x= .ref a∧H2 a=some (.ins C dx fs)∧Cls K C∧NoAttr K C f∧fs.length<1000∧
 D.nx σ (bo H2 a (.ins C dx (iR f y fs)))
section
variable{X:Cx}{o e value:Expr}{f:Str}{pos pos' tpos:Pos}{ta tv:TE}
theorem Gj (he:PE X e ta)(hb:attributeBase e f X.env (eval e X.env)=eval e X.env):PE X (.Attribute e f pos) (JF X.K ta f):=by
 intro pins s σ H Q I h;refine BC hb (aO (he pins s σ H _ I h) fun u s1 hZ67=>?_);obtain⟨x,H1,I1,rx,a,C,dx,fs,v,ex,ea,c,n,l,q⟩:=hZ67;subst ex;obtain rfl:u=Value.ref a:=rx;exact uY I1 ea c n l fun u' s2 I2 ru=>⟨v,H1,I2,ru,q⟩
theorem AF (ha:PE X o ta)(hv:PE X value tv)(hs:swapsWith value (some (.Attribute o f pos')) pos.line X.env=pure false):PS X (.Assign [.Attribute o f pos'] value pos) (JC X.K ta tv f):=by
 intro pins s σ H D I h;refine plainObj_wpAny_Assign_Attribute (aO (hv pins s σ H _ I h) fun u s1 ⟨y,H1,I1,ry,q⟩=>aO (ha pins s1 σ H1 _ I1 q) fun ov s2 hZ69=>?_) hs;obtain⟨x,H2,I2,rx,a,C,dx,fs,ex,ea,c,n,l,q2⟩:=hZ69;subst ex;obtain rfl:ov=Value.ref a:=rx;exact vL I2 ea c n l ry fun s3 I3=>⟨σ,_,I3,q2⟩
end
section
variable{X:Cx}{pins:List (Addr×Obj)}{σ:St}{H:Hp}{s:Shared}{A:Around}{E:Value→Shared→Prop}{Q:Value→Shared→Prop}{c:Value}{b:Bool}
end
structure Room (k:Nat)(A:Around):Prop where
 hd:A.handled=none
 dp:A.depth+3*k+5<recursionLimit
 un:A.units+16*k+200<cLine
theorem Room.mono {j k:Nat}{A:Around}(r:Room k A)(h:j≤k):Room j A:=⟨r.hd,by have:=r.dp;omega,by have:=r.un;omega⟩
theorem Room.deeper {k:Nat}{A:Around}(r:Room (k+1) A)(env:Env):Room k (A.deeper env):=
 ⟨r.hd,by have:=r.dp;show A.depth+1+3*k+5<_;omega,by have:=r.un;show A.units+3+16*k+200<_;omega⟩
theorem vg {A:Around}{C:Addr}{us:List Value}{kw:List (Str×Value)}:(A.under (.builtin "type.__call__" ⟨.ref C::us,kw⟩)).depth=A.depth+1:=by
 first|rfl|simp[Around.under,Code.weight,Code.isCreation,Code.isGuard,Code.isCaller,Code.frames,Code.isFrame,guardIds]
theorem vm {A:Around}{C:Addr}{us:List Value}{kw:List (Str×Value)}:(A.under (.builtin "type.__call__" ⟨.ref C::us,kw⟩)).units=A.units+1:=by
 first|rfl|simp[Around.under,Code.cUnits,Code.frames,Code.isFrame]
theorem Room.make {k:Nat}{A:Around}(r:Room (k+1) A)(C:Addr)(us:List Value)(kw:List (Str×Value)):Room k (A.under (.builtin "type.__call__" ⟨.ref C::us,kw⟩)):=
 ⟨r.hd,by have:=r.dp;rw[vg];omega,by have:=r.un;rw[vm];omega⟩
theorem Room.depth {k:Nat}{A:Around}(r:Room k A):A.depth<recursionLimit:=by have:=r.dp;omega
theorem Room.units {k:Nat}{A:Around}(r:Room k A):A.units+64<cLine:=by have:=r.un;omega
noncomputable def DJ:TA:=fun _ H Q=>Q [] H
noncomputable def w_ (ta:TE)(tr:TA):TA:=fun σ H Q=>ta σ H fun x H1=>tr σ H1 fun xs H2=>Q (x::xs) H2
section
variable{X:Cx}{e:Expr}{es:List Expr}{te:TE}{t:TA}{pos:Pos}
theorem jD:PA X [] DJ:=fun _ _ _ _ H Q I h=>Calls.spliced_nil ⟨[],H,I,.nil,h⟩
theorem dG (ha:PE X e te)(hr:PA X es t)(hs:starEach (e::es) X.env=(false,eval e X.env)::starEach es X.env:=by rfl):PA X (e::es) (w_ te t):=by
 intro pos pins s σ H Q I h;rw[hs];show wpAny _ _ (spliced ((false,eval e X.env)::backTo pos (starEach es X.env))) _ _ s;refine Calls.spliced_cons (aO (ha pins s σ H _ I h) fun u s1 hZ70=>?_);obtain⟨x,H1,I1,r1,q1⟩:=hZ70;exact aO (hr pos pins s1 σ H1 _ I1 q1) fun us s2 hZ71=>(by obtain⟨xs,H2,I2,r2,q2⟩:=hZ71;exact⟨x::xs,H2,I2,.cons r1 r2,q2⟩)
noncomputable def JL (t:TA):TE:=fun σ H Q=>t σ H fun xs H1=>xs.length≤sizeLine∧∀p,H1 p=none→Q (.ref p) (bo H1 p (.tup xs))
noncomputable def JH (t:TA):TE:=fun σ H Q=>t σ H fun xs H1=>xs.length≤sizeLine∧∀p,H1 p=none→Q (.ref p) (bo H1 p (.lst xs))
theorem Ax {x1}(h:PA X es t):PE X (.Tuple es x1 pos) (JL t):=by
 intro pins s σ H Q I hq;refine wpAny_Tuple_spliced (aO (h pos pins s σ H _ I hq) fun us s1 ⟨xs,H1,I1,r,z,q⟩=>⟨by rw[←r.length];exact z,?_⟩);have hf:H1 s1.heap.objs.size=none:=I1.hok.fresh (le_refl _);refine⟨.ref s1.heap.objs.size,bo H1 s1.heap.objs.size (.tup xs),I1.laid (t':=s1.toks) (fun b u e=>Heap.get?_push_of_some _ e) (le_refl _) ?_,rfl,q _ hf⟩;exact(oC z us r (HC _ (Heap.get?_push_size _ rfl) rfl _ rfl))
theorem At (h:PA X es t):PE X (.List es pos) (JH t):=by
 intro pins s σ H Q I hq;refine wpAny_List_spliced (aO (h pos pins s σ H _ I hq) fun us s1 ⟨xs,H1,I1,r,z,q⟩=>⟨by rw[←r.length];exact z,?_⟩);have hf:H1 s1.heap.objs.size=none:=I1.hok.fresh (le_refl _);refine⟨.ref s1.heap.objs.size,bo H1 s1.heap.objs.size (.lst xs),I1.laid (t':=s1.toks) (fun b u e=>Heap.get?_push_of_some _ e) (le_refl _) ?_,rfl,q _ hf⟩;exact(oB z us 0 r (Heap.get?_push_size _ rfl))
end
noncomputable abbrev Sp:=List V→Hp→VK→XK→Prop
noncomputable abbrev sH:=List Env→Hp→Shared→XK→Value→Shared→Prop
structure Env0 (P:Program)(w:World)(K:W.Frag)(mg:Str→Option Value)(base:Heap)(A:Around)(outer:List Env)(s:Shared)(H:Hp):Prop where
 frames:A.frames=some outer
 mod:Mod K mg base
 bs:∀b o,base.get? b=some o→s.heap.get? b=some o∧H b=none
 bsz:base.objs.size≤s.heap.objs.size
 funs:s.heap.FunFrames base outer
 frf:∀b∈kz outer,H b=none
 hok:HOk P w H s.heap
 bare:AllBare s.gens
inductive CE (outer:List Env)(P:Program)(w:World)(H:Hp)(s:Shared)(Q:VK)(u:Value)(s':Shared):Prop
 |mk (v:V) (H':Hp) (o:s'.os=s.os) (g:AllBare s'.gens) (n:Un (kz outer) [] H H' s.heap s'.heap) (h:HOk P w H' s'.heap) (r:RelV v u) (q:Q v H')
noncomputable def CR (CX:sH)(outer:List Env)(P:Program)(w:World)(H:Hp)(s:Shared)(Q:VK)(E:XK)(r:Result)(s':Shared):Prop:=
 match r with
 |.ok (.ret u)=>CE outer P w H s Q u s'
 |.ok _=>False
 |.error e=>CX outer H s E e s'
structure FnOk (P:Program)(w:World)(K:W.Frag)(mg:Str→Option Value)(base:Heap)(CX:sH)(k:Nat)(f:Addr)(fd:FuncData)(ps:List Str)(sp:Sp):Prop where
 len:∀vs H Q E,sp vs H Q E→vs.length=ps.length
 run:∀(A:Around) (outer:List Env) (s:Shared) (H:Hp) (args:Args) (us:List Value) (vs:List V) (Q:VK) (E:XK),Room k A→Env0 P w K mg base A outer s H→BindsTo s fd args (ps.zip us)→Vals vs us→sp vs H Q E→
  codeAny (model P w) A (.call (.ref f) args) (CR CX outer P w H s Q E) s
theorem FnOk.imp {P:Program}{w:World}{K:W.Frag}{mg:Str→Option Value}{base:Heap}{CX:sH}{k:Nat}{f:Addr}{fd:FuncData}{ps:List Str}{sp sp':Sp}(F:FnOk P w K mg base CX k f fd ps sp)
  (h:∀vs H Q E,sp' vs H Q E→sp vs H Q E):FnOk P w K mg base CX k f fd ps sp':=
 ⟨fun vs H Q E q=>F.len vs H Q E (h _ _ _ _ q),fun A outer s H args us vs Q E hr he hb hv hs=>F.run A outer s H args us vs Q E hr he hb hv (h _ _ _ _ hs)⟩
theorem Env0.make {P:Program}{w:World}{K:W.Frag}{mg:Str→Option Value}{base:Heap}{A:Around}{outer:List Env}{s:Shared}{H:Hp}(e:Env0 P w K mg base A outer s H)(C:Addr)(us:List Value)(kw:List (Str×Value)) :
  Env0 P w K mg base (A.under (.builtin "type.__call__" ⟨.ref C::us,kw⟩)) outer s H:=⟨by first|exact e.frames|(simpa [Around.under,Code.envs,Code.isFrame,pushEnvs] using e.frames),e.mod,e.bs,e.bsz,e.funs,e.frf,e.hok,e.bare⟩
section
variable{X:Cx}{pins:List (Addr×Obj)}{σ:St}{H:Hp}{s s':Shared}
theorem Inv.env0 (I:Inv X pins σ H s):Env0 X.prog X.w X.K X.mg X.base X.A X.stack s H:=
 ⟨I.ok.frames,I.ok.mod,I.bs,le_trans I.ok.bsz I.sz,I.stack,I.stkFree,I.hok,I.bare⟩
theorem Inv.after {Q:VK}{u:Value}(I:Inv X pins σ H s)(h:CE X.stack X.prog X.w H s Q u s'):EP X pins σ Q u s':=by
 refine cps fun PP kP=>?_;obtain⟨v,H',os,bare,un,hok,r,q⟩:=h;obtain⟨hh,g,d,t,os'⟩:=s';refine kP ?_;clear kP PP;obtain rfl:os'=s.os:=os;exact⟨v,H',I.call (h':=hh) (g':=g) (d':=d) (t':=t) (ch:=[]) un hok bare (fun b z=>absurd z (by simp)),r,q⟩
end
noncomputable def IF (sp:Sp)(dvs:List V)(E:XK)(t:TA):TE:=fun σ H Q=>t σ H fun vs H1=>sp (vs ++ dvs) H1 Q E
noncomputable def Et (C:Addr)(m:Str)(sp:Sp)(dvs:List V)(E:XK)(ta:TE)(t:TA):TE:=fun σ H Q=>ta σ H fun x H1=>∃a dx fs,x= .ref a∧H1 a=some (.ins C dx fs)∧fs.lookup m=none∧
 t σ H1 fun vs H2=>sp (x::(vs ++ dvs)) H2 Q E
noncomputable def Es (C:Addr)(sp:Sp)(dvs:List V)(E:XK)(t:TA):TE:=fun σ H Q=>t σ H fun vs H1=>∀x dx,H1 x=none→H1 dx=none→dx≠x→
 sp (.ref x::(vs ++ dvs)) (bo (bo H1 dx (.own x)) x (.ins C dx [])) (fun v H2=>v= .non∧Q (.ref x) H2) E
noncomputable def Binds (K:W.Frag)(fd:FuncData)(ps:List Str)(ds:List Value):Prop:=
 ∀(s:Shared) (us:List Value),K.In s.heap→(us ++ ds).length=ps.length→BindsTo s fd ⟨us,[]⟩ (ps.zip (us ++ ds))
theorem Binds.all {K:W.Frag}{fd:FuncData}{ps:List Str}(h:∀us:List Value,us.length=ps.length→bindArgs fd ⟨us,[]⟩=pure (ps.zip us)):Binds K fd ps []:=fun s us _ hl=>by
 rw[append_nil]at hl ⊢;exact .of_eq (h us hl)
noncomputable def cQ (CX:sH)(X:Cx)(E:XK):Prop:=∀(pins:List (Addr×Obj)) (σ:St) (H:Hp) (s:Shared) (e:Value) (s':Shared),Inv X pins σ H s→CX X.stack H s E e s'→X.xe e s'
section
variable{X:Cx}{CX:sH}{k:Nat}{f C:Addr}{fd:FuncData}{ps:List Str}{sp:Sp}{dvs:List V}{ds:List Value}{E:XK}{x m:Str}{p pos apos:Pos}{e o:Expr}{es:List Expr}{ta:TE}{t:TA}
theorem AR {pins:List (Addr×Obj)}{σ:St}{H:Hp}{s:Shared}{Q:VK}{us:List Value}{vs:List V}(F:FnOk X.prog X.w X.K X.mg X.base CX k f fd ps sp)(hr:Room k X.A)(hb:Binds X.K fd ps ds)(hd:Vals dvs ds)(hx:cQ CX X E)
  (I:Inv X pins σ H s) (r:Vals vs us) (h:sp (vs ++ dvs) H Q E):wpAny (model X.prog X.w) X.A (call (.ref f) us) (EP X pins σ Q) X.xe s:=by
 have r2:Vals (vs ++ dvs) (us ++ ds):=r.append hd;have hl:(us ++ ds).length=ps.length:=by rw[←r2.length];exact F.len _ _ _ _ h
 refine wpAny_call (codeAny_mono (F.run X.A X.stack s H ⟨us,[]⟩ (us ++ ds) (vs ++ dvs) Q E hr I.env0 (hb s us I.kIn hl) r2 h) fun r s' hq=>?_);cases r with
 |error e=>exact hx pins σ H s e s' I hq
 |ok fl=>
  cases fl with
  |ret u=>exact I.after hq
  |next=>exact False.elim hq
  |brk=>exact False.elim hq
  |cont=>exact False.elim hq
theorem C_ (F:FnOk X.prog X.w X.K X.mg X.base CX k f fd ps sp)(hr:Room k X.A)(hg:Gl X x)(hm:X.mg x=some (.ref f))(hk:W.keepIn X.K (.ref f)=true)(hb:Binds X.K fd ps ds)(hd:Vals dvs ds)(hx:cQ CX X E)
  (ha:PA X (e::es) t) (hdb:(x==("__debug__" :Str))=false:=by decide) (he:starEach (e::es) X.env=(false,eval e X.env)::starEach es X.env:=by rfl) (hpl:(backTo pos (starEach es X.env)).any (·.1)=false:=by rfl) :
  PE X (.Call (.Name x p) (e::es) [] pos) (IF sp dvs E t):=by
 intro pins s σ H Q I h;refine wpAny_Call_Name_kw (rM I hg hm ?_ hdb);refine W.callWith_K (h₀:=X.base) I.ok.mod.kin hk (aO (ha pos pins s σ H _ I h) fun us s1 ⟨vs,H1,I1,r,q⟩=>⟨I1.kIn,?_⟩) he hpl;exact AR F hr hb hd hx I1 r q
theorem Au {pl:Sem Bool}(he:PE X o ta)(c:Cls X.K C)(hm:Meth X.K C m f)(F:FnOk X.prog X.w X.K X.mg X.base CX k f fd ps sp)(hr:Room k X.A)(hb:Binds X.K fd ps ds)(hd:Vals dvs ds)(hx:cQ CX X E)
  (ht:eval (.Call (.Attribute o m apos) [] [] pos) X.env=(do
   let ov ←eval o X.env
   standAt apos.atName
   let (f,first) ←holding [ov] (getMethod ov m pl)
   callWith pos f first (backTo pos (starEach [] X.env)) (backToKw pos (keywordEach [] X.env))):=by rfl) :
  PE X (.Call (.Attribute o m apos) [] [] pos) (Et C m sp dvs E ta DJ):=by
 intro pins s σ H Q I h;refine W.methodCall_KW (pl:=pl) (aO (he pins s σ H _ I h) fun u s1 hZ75=>?_) ht;obtain⟨x,H1,I1,rx,a,dx,fs,ex,ea,l,q⟩:=hZ75;subst ex;obtain rfl:u=Value.ref a:=rx;refine uZ I1 ea c hm l ?_;exact W.callWith_K0 (first:=[.ref a]) I1.kIn hm.kp (AR (us:=[.ref a]) (vs:=[.ref a]) F hr hb hd hx I1 (.cons rfl .nil) q)
structure Mk (K:W.Frag)(C f:Addr):Prop where
 makes:W.makesIn K C=true
 init:W.findIn K (.ref C) "__init__" =some (some (.ref f))
 fn:W.isFn K (.ref f)=true
 kp:W.keepIn K (.ref C)=true
theorem AS {pins:List (Addr×Obj)}{σ:St}{H:Hp}{s:Shared}{Q:VK}{us:List Value}{vs:List V}(M:Mk X.K C f)(F:FnOk X.prog X.w X.K X.mg X.base CX k f fd ps sp)(hr:Room (k+1) X.A)(hb:Binds X.K fd ps ds)(hd:Vals dvs ds)
  (hx:cQ CX X E) (I:Inv X pins σ H s) (r:Vals vs us)
  (h:∀x dx,H x=none→H dx=none→dx≠x→sp (.ref x::(vs ++ dvs)) (bo (bo H dx (.own x)) x (.ins C dx [])) (fun v H2=>v= .non∧Q (.ref x) H2) E) :
  wpAny (model X.prog X.w) X.A (call (.ref C) us) (EP X pins σ Q) X.xe s:=by
 have hq:=h (s.heap.objs.size+1) s.heap.objs.size (I.hok.fresh (le_succ _)) (I.hok.fresh (le_refl _)) (ne_of_lt (lt_succ_self _));have I2:=Inv.made (C:=C) I;have r2:Vals (V.ref (s.heap.objs.size+1)::(vs ++ dvs)) (Value.ref (s.heap.objs.size+1)::(us ++ ds)):=.cons rfl (r.append hd);have hl:(Value.ref (s.heap.objs.size+1)::us ++ ds).length=ps.length:=by
  have e:=r2.length;rw[F.len _ _ _ _ hq]at e;exact e.symm
 refine wpAny_call (zY (f:=f) I.kIn M.makes M.init (beq_iff_eq.mp M.fn) (codeAny_mono (F.run _ X.stack _ _ ⟨Value.ref (s.heap.objs.size+1)::us,[]⟩ (Value.ref (s.heap.objs.size+1)::(us ++ ds)) _ _ E (hr.make C us [])
  (I2.env0.make C us []) (hb _ (Value.ref (s.heap.objs.size+1)::us) I2.kIn hl) r2 hq) fun r s' y=>?_))
 cases r with
 |error e=>exact hx pins σ _ _ e s' I2 y
 |ok fl=>
  cases fl with
  |ret u=>
   obtain⟨v,H',I3,rv,ev,q3⟩:=I2.after y;subst ev;exact⟨rv,⟨V.ref (s.heap.objs.size+1),H',I3,rfl,q3⟩⟩
  |next=>exact False.elim y
  |brk=>exact False.elim y
  |cont=>exact False.elim y
theorem Db (M:Mk X.K C f)(F:FnOk X.prog X.w X.K X.mg X.base CX k f fd ps sp)(hr:Room (k+1) X.A)(hg:Gl X x)(hm:X.mg x=some (.ref C))(hb:Binds X.K fd ps ds)(hd:Vals dvs ds)(hx:cQ CX X E)
  (ha:PA X (e::es) t) (hdb:(x==("__debug__" :Str))=false:=by decide) (he:starEach (e::es) X.env=(false,eval e X.env)::starEach es X.env:=by rfl) (hpl:(backTo pos (starEach es X.env)).any (·.1)=false:=by rfl) :
  PE X (.Call (.Name x p) (e::es) [] pos) (Es C sp dvs E t):=by
 intro pins s σ H Q I h;refine wpAny_Call_Name_kw (rM I hg hm ?_ hdb);refine W.callWith_K (h₀:=X.base) I.ok.mod.kin M.kp (aO (ha pos pins s σ H _ I h) fun us s1 ⟨vs,H1,I1,r,q⟩=>⟨I1.kIn,?_⟩) he hpl;exact AS M F hr hb hd hx I1 r q
end
section
variable{X:Cx}{CX:sH}{k:Nat}{f C:Addr}{fd:FuncData}{ps ks:List Str}{sp:Sp}{E:XK}{x m:Str}{p pos apos kpos:Pos}{e o:Expr}{es:List Expr}{kws:List Keyword}{te ta:TE}{t tk:TA}{nm:Option Str}
variable{g:List Value→List Value→List Value}{gV:List V→List V→List V}
end
structure FnScope (N P:List Str)(sc:Scope):Prop where
 kind:sc.kind= .function
 co:sc.isCoroutine=false
 gen:sc.isGenerator=false
 nd:N.Nodup
 pre:N.take P.length=P
 par:∀x∈P,sc.names.lookup x=some .local∨sc.names.lookup x=some .cell
 nofree:∀y∈sc.names,y.2≠ .free
theorem qe {kindOf:Str→Option NameKind}{x:Str}:∀{binds:List (Str×Value)} {m:Str→Option Value},(∀v,(x,v)∉binds)→bindL kindOf binds m x=m x
 | [],_,_=>rfl
 |(n,v)::r,m,h=>by
  unfold bindL;rw[qe fun w hw=>h w (cR hw)];split
  ·have:x≠n:=by rintro rfl;exact h v mem_cons_self
   simp[this]
  ·rfl
theorem qc {kindOf:Str→Option NameKind}{x:Str}:∀{binds:List (Str×Value)} {m:Str→Option Value},(∀v,(x,v)∉binds)→bindC kindOf binds m x=m x
 | [],_,_=>rfl
 |(n,v)::r,m,h=>by
  unfold bindC;rw[qc fun w hw=>h w (cR hw)];split
  ·rfl
  ·have:x≠n:=by rintro rfl;exact h v mem_cons_self
   simp[this]
theorem qd {kindOf:Str→Option NameKind}{x:Str}{v:Value}:∀{P:List Str} {vs:List Value} {i:Nat} {m:Str→Option Value},P.Nodup→P[i]?=some x→vs[i]?=some v→kindOf x=some .local→
  bindL kindOf (P.zip vs) m x=some v
 | [],_,_,_,_,h,_,_=>by simp at h
 |_::_,[],_,_,_,_,h,_=>by simp at h
 |p::P,w::vs,0,m,nd,h1,h2,hk=>by
  simp at h1 h2;subst h1;subst h2;show bindL kindOf ((p,w)::P.zip vs) m p=_;unfold bindL;rw[qe fun v hv=>(nodup_cons.mp nd).1 (of_mem_zip hv).1,if_pos hk];simp
 |p::P,w::vs,i+1,m,nd,h1,h2,hk=>by
  show bindL kindOf ((p,w)::P.zip vs) m x=_;unfold bindL;exact qd (i:=i) (nodup_cons.mp nd).2 (by simpa using h1) (by simpa using h2) hk
theorem qb {kindOf:Str→Option NameKind}{x:Str}{v:Value}:∀{P:List Str} {vs:List Value} {i:Nat} {m:Str→Option Value},P.Nodup→P[i]?=some x→vs[i]?=some v→kindOf x≠some .local→
  bindC kindOf (P.zip vs) m x=some v
 | [],_,_,_,_,h,_,_=>by simp at h
 |_::_,[],_,_,_,_,h,_=>by simp at h
 |p::P,w::vs,0,m,nd,h1,h2,hk=>by
  simp at h1 h2;subst h1;subst h2;show bindC kindOf ((p,w)::P.zip vs) m p=_;unfold bindC;rw[qc fun v hv=>(nodup_cons.mp nd).1 (of_mem_zip hv).1,if_neg hk];simp
 |p::P,w::vs,i+1,m,nd,h1,h2,hk=>by
  show bindC kindOf ((p,w)::P.zip vs) m x=_;unfold bindC;exact qb (i:=i) (nodup_cons.mp nd).2 (by simpa using h1) (by simpa using h2) hk
noncomputable def gu (N:List Str)(vs:List V):St:=vs.map some ++ replicate (N.length-vs.length) none
noncomputable def sW (CX:sH)(P:Program)(w:World)(K:W.Frag)(mg:Str→Option Value)(base:Heap)(N:List Str)(qual:Str)(scope:Scope)(f:Addr)(cd:Value)(A:Around)(outer:List Env)(s:Shared)(H:Hp)(E:XK):Cx where
 prog:=P
 w:=w
 K:=K
 mg:=mg
 base:=base
 A:=A.deeper (envOfC qual scope s.heap.objs.size f cd)
 N:=N
 s₀:=s
 H₀:=H
 env:=envOfC qual scope s.heap.objs.size f cd
 outer:=outer
 stack:=envOfC qual scope s.heap.objs.size f cd::outer
 ex:=[]
 calm:=true
 fn:=fun _=>true
 pn:=[]
 xe:=fun e s'=>wpAny (model P w) (A.deeper (envOfC qual scope s.heap.objs.size f cd)) (leaving (envOfC qual scope s.heap.objs.size f cd) e) (fun _ s''=>CX outer H s E e s'') (fun e' s''=>CX outer H s E e' s'') s'
theorem sS {sc:Scope}{n:Nat}{x:Str}(h:sc.names.lookup x=some .cell):∃c,(cellsFrom n sc.names []).lookup x=some c:=by
 have q:=W.cellsFrom_some sc.names n [] (.inl h);exact Option.isSome_iff_exists.mp q
theorem xU {CX:sH}{P:Program}{w:World}{K:W.Frag}{mg:Str→Option Value}{base:Heap}{N ps:List Str}{qual:Str}{scope:Scope}{f:Addr}{cd:Value}{A:Around}{outer:List Env}{s s1:Shared}{H:Hp}{E:XK}{us:List Value}{vs:List V}
  (S:FnScope N ps scope) (hd:A.handled=none) (e0:Env0 P w K mg base A outer s H) (hl:vs.length=ps.length) (r:Vals vs us)
  (x:InCallC s s.heap.objs.size (bindL (envOfC qual scope s.heap.objs.size f cd).kindOf (ps.zip us) fun _=>none) (cellsFrom (s.heap.objs.size+1) scope.names []) (bindC (envOfC qual scope s.heap.objs.size f cd).kindOf (ps.zip us) fun _=>none) s1) :
  Inv (sW CX P w K mg base N qual scope f cd A outer s H E) [] (gu N vs) H s1:=by
 have hpl:ps.length≤N.length:=by have:=congrArg List.length S.pre;rw[length_take]at this;omega
 refine mV (x.done) fun h1 tk hS19 hk=> ?_; subst hS19;have noA:∀ b:Addr,b∉(sW CX P w K mg base N qual scope f cd A outer s H E).ex:=fun b z=>absurd (show b∈([]:List Addr) from z) (by simp);refine ⟨⟨e0.mod,S.kind,rfl,rfl,le_refl _,fun y z c h1 B=> ?_,fun y hy=> ?_,fun y c _ h=> ?_,fun _=>hd,Around.frames_deeper e0.frames,.inr ⟨rfl,rfl⟩,fun b z=>absurd z (noA b),e0.bs,e0.bsz,fun b _ _=>noA b,fun b z=>absurd z (noA b),e0.funs,e0.frf⟩,
  rfl,e0.bare,Un.kept hk,⟨_,x.toInCall.ns,fun i y v h1 B h3=>?_⟩,fun y c h=>⟨_,x.cell y c h⟩,e0.hok.fresh (le_refl _),fun y c h=>?_,fun p hp=>absurd (show p∈([]:List (Addr×Obj)) from hp) (by simp),e0.hok.kept hk,?_⟩
 ·exact name_of_addr x.apart (PySem.mem_of_lookup h1) (PySem.mem_of_lookup B)
 ·have hy:scope.names.lookup y=some .cell∨scope.names.lookup y=some .free:=hy
  rcases hy with hy|hy
  ·exact sS hy
  ·exact absurd rfl (S.nofree _ (PySem.mem_of_lookup hy))
 ·exact le_of_lt (x.above y c (PySem.mem_of_lookup h))
 ·have hi:i<vs.length:=by
   unfold gu at B;by_cases hi:i<vs.length
   ·exact hi
   ·rw[List.getElem?_append_right (by simpa using hi)]at B;rw[List.getElem?_replicate]at B;split at B <;> cases B
  have ha:vs[i]?=some v:=by
   unfold gu at B;rw[List.getElem?_append_left (by simpa using hi),getElem?_map]at B;cases e:vs[i]? with
   |none=>rw[e]at B;cases B
   |some a=>rw[e]at B;cases B;rfl
  obtain⟨u,hu,rv⟩:=r.get ha;have hp:ps[i]?=some y:=by
   rw[←S.pre,List.getElem?_take_of_lt (by omega)];exact h1
  have ndP:ps.Nodup:=by rw[←S.pre];exact S.nd.sublist (List.take_sublist _ _)
  refine⟨u,rv,?_⟩
  rcases S.par y (mem_of_getElem? hp) with k|k
  ·exact .inl ⟨k,qd ndP hp hu k⟩
  ·obtain⟨c,e⟩:=sS (n:=s.heap.objs.size+1) k;refine .inr (oC (.inl k) c e ?_);have q:=x.cell y c e;rw[qb ndP hp hu (by show scope.names.lookup y≠_;rw[k];decide)]at q;exact q
 ·exact e0.hok.fresh (le_of_lt (x.above y c (PySem.mem_of_lookup h)))
 ·unfold gu;show _=N.length;rw[length_append,length_map,List.length_replicate];omega
theorem zq {CX:sH}{P:Program}{w:World}{K:W.Frag}{mg:Str→Option Value}{base:Heap}{k:Nat}{f:Addr}{name qual:Str}{params:Arguments}{body:List Stmt}{scope:Scope}{dV kV doc pm cdv ct oc:Value}{an od:Option Addr}
  {osl:Array (Option Value)} {N ps:List Str} {sp:Sp} (lk:K.lookup f=some ⟨oc,od,.func (W.fnOf name qual params body scope dV kV doc pm an cdv ct),osl⟩) (hcd:W.codeIn K cdv qual=true) (S:FnScope N ps scope)
  (len:∀vs H Q E,sp vs H Q E→vs.length=ps.length)
  (hbody:∀(A:Around) (outer:List Env) (s:Shared) (H:Hp) (vs:List V) (Q:VK) (E:XK),Room k (A.deeper (envOfC qual scope s.heap.objs.size f cdv))→sp vs H Q E→
   ∃t,GX (sW CX P w K mg base N qual scope f cdv A outer s H E) body t∧t {nx:=fun _ H'=>Q .non H',rt:=Q} (gu N vs) H) :
  FnOk P w K mg base CX (k+1) f (W.fnOf name qual params body scope dV kV doc pm an cdv ct) ps sp:=by
 refine⟨len,fun A outer s H args us vs Q E hr e0 hb r hsp=>?_⟩;have hl:=len _ _ _ _ hsp;have KX:K.In s.heap:=e0.mod.kin.keeps fun b o e=>(e0.bs b o e).1;have lim:s.heap.NoLimit:=e0.mod.nolimit.keeps fun b o e=>(e0.bs b o e).1;have hkind:∀y∈ps.zip us,scope.names.lookup y.1=some .local∨(scope.names.lookup y.1=some .cell∧((cellsFrom (s.heap.objs.size+1) scope.names []).lookup y.1).isSome=true):=fun ⟨n,v⟩ hy=>by
  rcases S.par n (of_mem_zip hy).1 with q|q
  ·exact .inl q
  ·exact .inr ⟨q,W.cellsFrom_some _ _ _ (.inl q)⟩
 refine codeAny_call_function hr.depth (KX _ _ lk) rfl S.co S.gen rfl (W.codeRec_of KX hcd) (hb _ _ _ _ ?_);refine wpAny_newFunctionEnv_cells S.kind hkind fun env he s1 x=>?_;subst he;refine⟨lim.keeps x.toInCall.keep,codeAny_func ?_⟩;obtain⟨t,ht,hq⟩:=hbody A outer s H vs Q E (hr.deeper _) hsp;have I:Inv (sW CX P w K mg base N qual scope f cdv A outer s H E) [] (gu N vs) H s1:=xU S hr.hd e0 hl r x;refine wpAny_mono (ht [] s1 (gu N vs) H _ I hq) (fun fl s' hs=>?_) fun e s' hs=>hs;have fin:∀{z:St} {H':Hp} {v:V} {u:Value},Inv (sW CX P w K mg base N qual scope f cdv A outer s H E) [] z H' s'→RelV v u→Q v H'→CE outer P w H s Q u s':=
  fun {z H' v u} J rv q=>⟨v,H',J.os,J.bare,J.base,J.hok,rv,q⟩
 cases fl with
 |ret u=>
  obtain⟨v,z,H',J,rv,q⟩:=hs;exact fin J rv q
 |next=>
  obtain⟨z,H',J,q⟩:=hs;exact fin (v:=V.non) (u:=Value.none) J rfl q
 |brk=>
  obtain⟨_,_,_,q⟩:=hs;exact False.elim q
 |cont=>
  obtain⟨_,_,_,q⟩:=hs;exact False.elim q
section
variable{X:Cx}{x:Str}{p pos:Pos}{e:Expr}{es:List Expr}{t:TA}{id T:String}{r:List V→Hp→VK→Prop}
noncomputable def JE (r:List V→Hp→VK→Prop)(t:TA):TE:=fun σ H Q=>t σ H fun vs H1=>r vs H1 Q
theorem t_ (hc:eD X (.builtin id) r)(hg:Gl X x)(hm:X.mg x=none)(hv:bootBuiltins x=some (.builtin id))(ha:PA X (e::es) t)(hn:x≠ "__name__" :=by decide)(hdb:(x==("__debug__" :Str))=false:=by decide)
  (he:starEach (e::es) X.env=(false,eval e X.env)::starEach es X.env:=by rfl) (hpl:(backTo pos (starEach es X.env)).any (·.1)=false:=by rfl):PE X (.Call (.Name x p) (e::es) [] pos) (JE r t):=by
 intro pins s σ H Q I h;refine wpAny_Call_Name_kw (ju I hg hm hv ?_ hn hdb);exact PyProof.Rows.callWith_builtin1 (aO (ha pos pins s σ H _ I h) fun us s1 hZ77=>(by obtain⟨vs,H1,I1,r1,q1⟩:=hZ77;exact hc pins s1 σ H1 vs us Q I1 r1 q1)) he hpl
theorem fg (hc:eD X (.type T) r)(hg:Gl X x)(hm:X.mg x=none)(hv:bootBuiltins x=some (.type T))(ha:PA X (e::es) t)(hn:x≠ "__name__" :=by decide)(hdb:(x==("__debug__" :Str))=false:=by decide)
  (he:starEach (e::es) X.env=(false,eval e X.env)::starEach es X.env:=by rfl) (hpl:(backTo pos (starEach es X.env)).any (·.1)=false:=by rfl):PE X (.Call (.Name x p) (e::es) [] pos) (JE r t):=by
 intro pins s σ H Q I h;refine wpAny_Call_Name_kw (ju I hg hm hv ?_ hn hdb);exact PyProof.Rows.callWith_type1 (aO (ha pos pins s σ H _ I h) fun us s1 hZ78=>(by obtain⟨vs,H1,I1,r1,q1⟩:=hZ78;exact hc pins s1 σ H1 vs us Q I1 r1 q1)) he hpl
end
end L2
namespace HT
open PySem PyProof.Rows
noncomputable def aK:List Int→List Int→Bool
 | [],[]=>false
 | [],_::_=>true
 |_::_,[]=>false
 |x::xs,y::ys=>if x=y then aK xs ys else decide (x<y)
theorem oP (x y:Int)(xs ys:List Int):aK (x::xs) (y::ys)=if x=y then aK xs ys else decide (x<y):=rfl
theorem j6:aK [] []=false:=rfl
theorem jz (y:Int)(ys:List Int):aK [] (y::ys)=true:=rfl
theorem jw (x:Int)(xs:List Int):aK (x::xs) []=false:=rfl
theorem zg (A:Around)(s:Shared)(a:Int)(t:Tok)(c:Int)(u:Tok):∃e,SeqAt.EqAt A s (.int a t) (.int c u) e∧(e=true↔a=c):=
 ⟨(a==c),SeqAt.EqAt.int_int a t c u,by simp⟩
theorem AK (A:Around)(s:Shared)(a:Int)(t:Tok)(c:Int)(u:Tok)(prog:Program)(w:World)(E:Value→Shared→Prop)(Q:Value→Shared→Prop)(h:Q (.bool (decide (a<c))) s) :
  wpAny (model prog w) A (richCompare .Lt (.int a t) (.int c u)) Q E s:=
 (PyProof.Rows.lt_int h:wpAny (model prog w) A (compareOp .Lt (.int a t) (.int c u)) Q E s)
section
open PySem.SeqAt
open PySem.AutoSeq1 (wpAny_loadPart')
open PySem.MeetsSeq PySem.MeetsSeq2 PySem.MeetsSeq3
theorem pW (l b:Addr)(items items2:Array Value)(n n2:Nat)(dd dd2:Option Addr)(sl sl2:Array (Option Value))(ns ms:List Int)(hi:IntsAre items.toList ns)(hj:IntsAre items2.toList ms) :
  Meets (Builtin.«tuple.__lt__» ⟨[.ref l,.ref b],[]⟩)
   (fun _ R s=>s.heap.get? l=some {cls:=.type "tuple",dict:=dd,data:=.seq items n,slots:=sl}∧s.heap.get? b=some {cls:=.type "tuple",dict:=dd2,data:=.seq items2 n2,slots:=sl2}∧
    R (.ok (.ret (.bool (aK ns ms)))) s):=
 .of_wp fun prog w A R s h=>by
  obtain⟨hp,g,d,tk,os⟩:=s;obtain⟨hl,hb,h⟩:=h;have f2:=AutoSeq1.sub_tuple_tuple;have z1:items.size=ns.length:=by rw[←hi.length];simp
  have z2:items2.size=ms.length:=by rw[←hj.length];simp
  wp_walk using wpAny_loadPart' hl,wpAny_loadPart' hb,wpAny_forIn_list _ (fun rest b s'=>b.1=none∧s'=⟨hp,g,d,tk,os⟩∧∃(vs ws:List Value) (D C:List Int),rest=vs.zip ws∧
   IntsAre vs D∧IntsAre ws C∧D.length+items2.size=C.length+items.size∧R (.ok (.ret (.bool (aK D C)))) ⟨hp,g,d,tk,os⟩) _
  case turn=>
   rintro⟨y,x⟩ rest b s' ⟨hb',rfl,vs,ws,D,C,E,hvi,F,B,hR⟩;cases hvi with
   |nil=>rw[zip_nil_left]at E;cases E
   |cons a t hvi'=>
    cases F with
    |nil=>rw[List.zip_nil_right]at E;cases E
    |cons c u hwi'=>
     rw[zip_cons_cons]at E;injection E with hyx hrest
     injection hyx with hy hx
     subst hy hx;rw[oP]at hR;simp only[length_cons]at B;obtain⟨e,he,hiff⟩:=zg A.in1 ⟨hp,g,d,tk,os⟩ a t c u;refine wpAny_bind (he prog w _ _ ?_);cases e with
     |true=>
      rw[if_pos (hiff.mp rfl)]at hR
      wp_walk
      exact(HF rfl rfl _ _ _ _ hrest hvi' hwi' (by omega) hR)
     |false=>
      rw[if_neg (fun q=>absurd (hiff.mpr q) Bool.false_ne_true)]at hR;have hri:=AK A.in1 ⟨hp,g,d,tk,os⟩ a t c u prog w
      wp_walk using hri
      exact⟨_,rfl,by simpa using hR⟩
  case fin=>
   rintro⟨b1,b2⟩ s' ⟨hb',rfl,vs,ws,D,C,E,hvi,F,B,hR⟩;simp only at hb';subst hb';have hv:aK D C=decide (items.size<items2.size):=by
    cases hvi with
    |nil=>
     cases F with
     |nil=>
      simp only[length_nil]at B;rw[j6];exact(decide_eq_false (by omega)).symm
     |cons c u hw=>
      simp only[length_nil,length_cons]at B;rw[jz];exact(decide_eq_true (by omega)).symm
    |cons a t hv=>
     cases F with
     |nil=>
      simp only[length_nil,length_cons]at B;rw[jw];exact(decide_eq_false (by omega)).symm
     |cons c u hw=>
      rw[zip_cons_cons]at E;cases E
   rw[hv]at hR
   wp_walk
   exact⟨_,rfl,by simpa [Builtin.Tuple.tupleCompareSizes] using hR⟩
  case h=>
   exact(HF rfl rfl items.toList items2.toList ns ms rfl hi hj (by omega) h)
end
section
variable{prog:Program}{w:World}{A:Around}{E:Value→Shared→Prop}{s:Shared}
theorem vf {l b:Addr}{items items2:Array Value}{ns ms:List Int}{Q:Value→Shared→Prop}(hl:IsTup s.heap l items)(hb:IsTup s.heap b items2)(hi:IntsAre items.toList ns)(hj:IntsAre items2.toList ms)
  (hu:A.units<cLine) (h:Q (.bool (aK ns ms)) s):wpAny (model prog w) A (compareOp .Lt (.ref l) (.ref b)) Q E s:=by
 refine cps fun PP kP=>?_;refine yL (id hl) fun hS20 ho hc n hd=>?_;obtain⟨cls,dd,data,sl⟩:=hS20;refine yL (id hb) fun hS21 ho2 hc2 n2 hd2=>?_;obtain⟨cls2,dd2,data2,sl2⟩:=hS21;refine kP ?_;clear kP PP;simp only at hc hd hc2 hd2;subst hc hd hc2 hd2;exact richCompare_meets_room (op:=.Lt) ⟨_,ho,rfl⟩ ⟨_,ho2,rfl⟩ PySem.F.slot_tuple_lt PySem.F.entry_tuple_lt (PySem.F.args_tuple_lt_2 _ _) (pW l b items items2 n n2 dd dd2 sl sl2 ns ms hi hj)
  ⟨ho,ho2,show Value.bool (aK ns ms)≠Value.notImplemented∧Q (.bool (aK ns ms)) s from ⟨(fun x=>nomatch x),h⟩⟩ hu
noncomputable def cS (n d:Nat):Option Int→Nat
 |none=>d
 |some v=>if v<0 then (v+(n:Int)).toNat else min v.toNat n
theorem Dx (n d k:Nat):cS n d (some (k:Int))=min k n:=by
 show (if (k:Int)<0 then ((k:Int)+(n:Int)).toNat else min (k:Int).toNat n)=min k n
 rw[if_neg (by omega),toNat_natCast]
theorem GE (n d:Nat)(hd:d≤n)(o:Option Int):cS n d o≤n:=by
 cases o with
 |none=>exact hd
 |some v=>
  show (if v<0 then (v+(n:Int)).toNat else min v.toNat n)≤n
  by_cases hv:v<0
  ·rw[if_pos hv];omega
  ·rw[if_neg hv];exact Nat.min_le_right _ _
theorem np (v:Int)(n d:Nat):(if v<0 then max (v+(n:Int)) 0 else min v (n:Int))=((cS n d (some v):Nat):Int):=by
 show (if v<0 then max (v+(n:Int)) 0 else min v (n:Int))=(((if v<0 then (v+(n:Int)).toNat else min v.toNat n):Nat):Int)
 by_cases hv:v<0
 ·simp only[if_pos hv];omega
 ·simp only[if_neg hv];omega
theorem uN (lo hi:Option Int)(n:Nat):Builtin.Slice.sliceAdjust lo hi 1 (n:Int)=(((cS n 0 lo:Nat):Int),((cS n n hi:Nat):Int)):=by
 have h1:¬((1:Int)<0):=by omega
 unfold Builtin.Slice.sliceAdjust;simp only[h1,if_false];refine Prod.ext ?_ ?_
 ·cases lo with
  |none=>rfl
  |some v=>exact np v n 0
 ·cases hi with
  |none=>rfl
  |some v=>exact np v n n
theorem vE (i j:Nat):Builtin.Slice.slicePlaces (i:Int) (j:Int) 1=j-i:=by
 unfold Builtin.Slice.slicePlaces;have h1:(1:Int)>0:=by omega
 simp only[h1,if_true,Int.ediv_one];split <;> omega
theorem pq {v:Value}{o:Option Int}{Q:Option Int→Shared→Prop}(p:IsPart v o)(h:Q o s):wpAny (model prog w) A (Builtin.Slice.slicePartIndex v) Q E s:=by
 cases p with
 |none=>exact slicePart_none h
 |int i t=>exact slicePart_int h
theorem my {sl:Addr}{vl vu:Value}{lo hi:Option Int}{n:Nat}{Q:Int×Int×Nat→Shared→Prop}(hs:s.heap.IsSliceOf sl vl vu .none)(pl:IsPart vl lo)(pu:IsPart vu hi)
  (h:Q (((cS n 0 lo:Nat):Int),1,cS n n hi-cS n 0 lo) s):wpAny (model prog w) A (Builtin.Slice.sliceApplied (.ref sl) (pure (n:Int))) Q E s:=by
 refine cj (id hs) fun os hos hcs hds=>?_;unfold Builtin.Slice.sliceApplied Builtin.Slice.sliceFields;refine wpAny_bind (wpAny_bind (wpAny_field hos hds (x:=vl) rfl (wpAny_bind (wpAny_field hos hds (x:=vu) rfl (wpAny_bind (wpAny_field hos hds (x:=.none) rfl (wpAny_pure ?_)))))));refine wpAny_bind (slicePart_none ?_);show wpAny _ _ (if ((1:Int)==0)=true then _ else _) _ _ s
 rw[if_neg (by decide)];refine wpAny_bind (pq pl (wpAny_bind (pq pu (wpAny_bind (wpAny_pure ?_)))));show wpAny _ _ (match Builtin.Slice.sliceAdjust lo hi 1 (n:Int) with|(lo,hi)=>pure (lo,(1:Int),Builtin.Slice.slicePlaces lo hi 1)) _ _ s
 rw[uN lo hi n];show wpAny _ _ (pure (((cS n 0 lo:Nat):Int),(1:Int),Builtin.Slice.slicePlaces ((cS n 0 lo:Nat):Int) ((cS n n hi:Nat):Int) 1)) _ _ s;rw[vE];exact wpAny_pure h
theorem Az (xs:Array Value)(i k:Nat):((List.range k).filterMap fun (m:Nat)=>xs[((i:Int)+(m:Int)*1).toNat]?).toArray=((xs.toList.drop i).take k).toArray:=by
 have e:(fun (m:Nat)=>xs[((i:Int)+(m:Int)*1).toNat]?)=fun m=>xs[i+m]?:=by
  funext m;have:((i:Int)+(m:Int)*1).toNat=i+m:=by omega
  rw[this]
 rw[e];have:=pick_run xs i k;rw[filterMap_map]at this;have e2:((fun x=>xs[x]?) ∘ fun x=>i+x)=fun m=>xs[i+m]?:=rfl;rw[e2]at this;rw[this]
theorem lr {t sl:Addr}{items:Array Value}{vl vu:Value}{lo hi:Option Int}{Q:Value→Shared→Prop}(ht:IsTup s.heap t items)(hs:s.heap.IsSliceOf sl vl vu .none)(pl:IsPart vl lo)(pu:IsPart vu hi)
  (hw:¬(cS items.size 0 lo=0∧cS items.size items.size hi=items.size))
  (h:Q (.ref s.heap.objs.size) {s with heap:=s.heap.push {cls:=.type "tuple",data:=.seq ((items.toList.drop (cS items.size 0 lo)).take (cS items.size items.size hi-cS items.size 0 lo)).toArray}})
  (hsz:items.size≤sizeLine):wpAny (model prog w) A (getItem (.ref t) (.ref sl)) Q E s:=by
 have F:sizeOk (.seq ((items.toList.drop (cS items.size 0 lo)).take (cS items.size items.size hi-cS items.size 0 lo)).toArray):=by
  show ((items.toList.drop (cS items.size 0 lo)).take (cS items.size items.size hi-cS items.size 0 lo)).toArray.size≤sizeLine;rw[size_toArray,length_take,List.length_drop,length_toList];omega
 have hj:cS items.size items.size hi≤items.size:=GE _ _ (le_refl _) hi;refine cj (id hs) fun os hos hcs hds=>?_;have hTs:s.TypeIs (.ref sl) "slice" :=⟨os,hos,hcs⟩;unfold getItem
 try with_reducible refine wpAny_holding ?_
 first|refine wpAny_bind (wpAny_pure ?_)|skip
 refine wpAny_bind (wpAny_sequenceKey ht.typeIs (by decide) ?_);refine wpAny_bind (wpAny_callSpecial?_slot (name:=Str.ofString "__getitem__") ht.typeIs PyProof.Rows.slot_tuple_getitem
  (wpAny_call_entry PyProof.Rows.slot_tuple_getitem ht.typeIs entry_tuple_getitem ?_ (args_tuple_getitem _ _)))
 show wpAny _ _ (Builtin.Tuple.tupleItemsOf (.ref t) >>= _) _ _ s;refine wpAny_bind (tupleItemsOf_ ht ?_);refine wpAny_bind (wpAny_typeOf hTs ?_);rw[if_pos (by decide)];refine wpAny_bind (my hs pl pu ?_);have hno:¬((((cS items.size 0 lo:Nat):Int)==0&&(1:Int)==1&&(cS items.size items.size hi-cS items.size 0 lo)==items.size)=true):=by
  intro q;rw[and_eq_true,and_eq_true]at q;have q1:((cS items.size 0 lo:Nat):Int)=0:=eq_of_beq q.1.1;have q2:cS items.size items.size hi-cS items.size 0 lo=items.size:=eq_of_beq q.2;exact hw ⟨by omega,by omega⟩
 show wpAny _ _ (if (((cS items.size 0 lo:Nat):Int)==0&&(1:Int)==1&&(cS items.size items.size hi-cS items.size 0 lo)==items.size)=true then _ else _) _ _ s
 rw[if_neg hno,Az]
 first
  |exact wpAny_bind (m:=Builtin.Tuple.tupleExact _) (wpAny_newObj_type (wpAny_pure ⟨_,rfl,wpAny_pure h⟩) F)
  |exact wpAny_bind (m:=Builtin.Tuple.tupleExact _) (wpAny_newObj_type (wpAny_bind (wpAny_pure (wpAny_pure ⟨_,rfl,wpAny_pure h⟩))) F)
  |exact wpAny_bind (wpAny_bind (m:=Builtin.Tuple.tupleExact _) (wpAny_newObj_type (wpAny_pure (wpAny_pure ⟨_,rfl,wpAny_pure h⟩)) F))
  |exact wpAny_bind (wpAny_bind (m:=Builtin.Tuple.tupleExact _) (wpAny_newObj_type (wpAny_pure ⟨_,rfl,wpAny_pure h⟩) F))
end
end HT
namespace L2
open PySem PySem.Spec PyProof.Rows
noncomputable abbrev TO:=St→Hp→(Option Int→Hp→Prop)→Prop
noncomputable def PO (X:Cx)(e:Option Expr)(t:TO):Prop:=
 ∀(pins:List (Addr×Obj)) (s:Shared) (σ:St) (H:Hp) (Q:Option Int→Hp→Prop),Inv X pins σ H s→t σ H Q→
  wpAny (model X.prog X.w) X.A (evalPart e X.env) (fun u s'=>∃o H',Inv X pins σ H' s'∧IsPart u o∧Q o H') X.xe s
noncomputable def DK:TO:=fun _ H Q=>Q none H
noncomputable def IH (t:TE):TO:=fun σ H Q=>t σ H fun x H1=>∃i,x= .int i∧Q (some i) H1
theorem fF {ns:List Int}:∀{us:List Value},Vals (ns.map V.int) us→IntsAre us ns:=by
 induction ns with
 |nil=>intro us r;rw[map_nil]at r;cases r;exact .nil
 |cons n ns ih=>
  intro us r;rw[map_cons]at r;cases r with
  |cons r1 r2=>
   obtain⟨t,e⟩:=r1;subst e;exact .cons n t (ih r2)
section
variable{X:Cx}{e:Expr}{te:TE}{lo hi:Option Expr}{tl th:TO}{pos p2:Pos}
theorem Do:PO X none DK:=by
 intro pins s σ H Q I h;rw[evalPart_none];exact wpAny_pure (dR none H I .none h)
theorem Dp (h:PE X e te):PO X (some e) (IH te):=by
 intro pins s σ H Q I hw;rw[evalPart_some];refine aO (h pins s σ H _ I hw) fun u s1 hZ79=>?_;refine cps fun PP kP=>?_;obtain⟨x,H1,I1,r1,q1⟩:=hZ79;obtain⟨i,rfl,q⟩:=q1;obtain⟨t,rfl⟩:=r1;refine kP ?_;clear kP PP;exact(dR (some i) H1 I1 (.int i t) q)
noncomputable def SlR (X:Cx)(r:V→Option Int→Option Int→Hp→VK→Prop):Prop:=
 ∀(pins:List (Addr×Obj)) (s:Shared) (σ:St) (H:Hp) (x:V) (v vl vu:Value) (lo hi:Option Int) (sl:Addr) (Q:VK),Inv X pins σ H s→RelV x v→s.heap.IsSliceOf sl vl vu .none→IsPart vl lo→IsPart vu hi→r x lo hi H Q→
  ∃T id,typeLookup (.type T) "__getitem__" =pure (some (.builtin id))∧s.TypeIs v T∧wpAny (model X.prog X.w) X.A (getItem v (.ref sl)) (EP X pins σ Q) X.xe s
theorem SlR.or {r r':V→Option Int→Option Int→Hp→VK→Prop}(h:SlR X r)(h':SlR X r'):SlR X (fun x lo hi H Q=>r x lo hi H Q∨r' x lo hi H Q):=by
 intro pins s σ H x v vl vu lo hi sl Q I rx hs pl pu q
 rcases q with q|q
 ·exact h pins s σ H x v vl vu lo hi sl Q I rx hs pl pu q
 ·exact h' pins s σ H x v vl vu lo hi sl Q I rx hs pl pu q
noncomputable def JZ (r:V→Option Int→Option Int→Hp→VK→Prop)(te:TE)(tl th:TO):TE:=fun σ H Q=>te σ H fun x H1=>tl σ H1 fun l H2=>th σ H2 fun u H3=>r x l u H3 Q
theorem Aw {r:V→Option Int→Option Int→Hp→VK→Prop}(hr:SlR X r)(he:PE X e te)(hl:PO X lo tl)(hu:PO X hi th):PE X (.Subscript e (.Slice lo hi none p2) pos) (JZ r te tl th):=by
 intro o s σ H Q I h;refine Subscript_ (aO (he o s σ H _ I h) fun v s1 hZ80=>?_);obtain⟨x,H1,I1,r1,q1⟩:=hZ80;refine wpAny_Slice (aO (hl o s1 σ H1 _ I1 q1) fun vl s2 ⟨l,H2,I2,pl,q2⟩=>aO (hu o s2 σ H2 _ I2 q2) fun vu G hZ82=>?_);obtain⟨u,H3,I3,pu,q3⟩:=hZ82;rw[evalPart_none];refine wpAny_pure ?_;have I4:Inv X o σ H3 {G with heap:=G.heap.push {cls:=.type "slice",data:=.fields #[vl,vu,.none]}}:=I3.kept (t':=G.toks) fun b ob q=>Heap.get?_push_of_some _ q
 refine bA (hr o {G with heap:=G.heap.push {cls:=.type "slice",data:=.fields #[vl,vu,.none]}} σ H3 x v vl vu l u G.heap.objs.size Q I4 r1 (Heap.IsSliceOf.new ..) pl pu q3) fun T id hT ht hg=>?_
 show wpAny (model X.prog X.w) X.A (subscriptTail e (.Slice lo hi none p2) v (.ref G.heap.objs.size)) (EP X o σ Q) X.xe {G with heap:=G.heap.push {cls:=.type "slice",data:=.fields #[vl,vu,.none]}}
 exact tail_any (ops:=[.ref G.heap.objs.size,v]) ht hT hg (by with_unfolding_all rfl)
noncomputable def sV (xs:List V)(lo hi:Option Int):List V:=(xs.drop (HT.cS xs.length 0 lo)).take (HT.cS xs.length xs.length hi-HT.cS xs.length 0 lo)
theorem mF (xs:List V)(lo hi:Option Int):(sV xs lo hi).length≤xs.length:=by
 unfold sV;rw[length_take,List.length_drop];omega
noncomputable def JB (K:W.Frag):V→Option Int→Option Int→Hp→VK→Prop:=fun x lo hi H Q=>∃a xs,x= .ref a∧nk K H a xs∧
 ¬(HT.cS xs.length 0 lo=0∧HT.cS xs.length xs.length hi=xs.length)∧∀p,H p=none→Q (.ref p) (bo H p (.tup (sV xs lo hi)))
theorem GG:SlR X (JB X.K):=by
 intro pins s σ H x v vl vu lo hi sl Q I rx hs pl pu h;refine pG (h) fun a xs hS22 hx hw q=>?_;subst hS22;cases rx;refine cj (I.tuple hx) fun its r ht hz=>?_;have A:its.toArray.size=xs.length:=by rw[size_toArray];exact r.length.symm
 refine(dR "tuple" _ PyProof.Rows.slot_tuple_getitem.lookup ht.typeIs ?_);refine HT.lr ht hs pl pu (by rw[A];exact hw) ?_ (by rw[A];exact hz);rw[A];refine⟨.ref s.heap.objs.size,_,I.laid (t':=s.toks) (o:=.tup (sV xs lo hi)) (fun b ob q=>Heap.get?_push_of_some _ q) (le_refl _) ?_,rfl,q _ (I.hok.fresh (le_refl _))⟩;exact(oC (le_trans (mF xs lo hi) hz) _ ((r.drop (HT.cS xs.length 0 lo)).take (HT.cS xs.length xs.length hi-HT.cS xs.length 0 lo)) (IsTup.new _ _))
end
noncomputable def tK (n:Nat)(i:Int):Option Nat:=if 0≤i then (if i<n then some i.toNat else none) else if -(n:Int)≤i then some (i+n).toNat else none
noncomputable def atI {α:Type}(xs:List α)(i:Int):Option α:=(tK xs.length i).bind fun j=>xs[j]?
theorem rG {n:Nat}{i:Int}{j:Nat}(h:tK n i=some j):seqIndex? i n=some j∧j<n∧ -(n:Int)≤i∧i<n:=by
 unfold tK at h;by_cases h0:0≤i
 ·rw[if_pos h0]at h;by_cases H:i<n
  ·rw[if_pos H]at h;have e:i.toNat=j:=Option.some.inj h;exact(m3 (by rw[seqIndex_of h0 H,e]) (by omega) (by omega) H)
  ·rw[if_neg H]at h;cases h
 ·rw[if_neg h0]at h;by_cases H: -(n:Int)≤i
  ·rw[if_pos H]at h;have e:(i+n).toNat=j:=Option.some.inj h;exact(m3 (by rw[seqIndex_neg (by omega) H,e]) (by omega) H (by omega))
  ·rw[if_neg H]at h;cases h
theorem qR {α:Type}{xs:List α}{i:Int}{v:α}(h:atI xs i=some v):∃j,seqIndex? i xs.length=some j∧xs[j]?=some v∧j<xs.length∧ -(xs.length:Int)≤i∧i<xs.length:=by
 unfold atI at h;cases e:tK xs.length i with
 |none=>rw[e]at h;cases h
 |some j=>
  rw[e]at h;refine mE (rG e) fun h1 h2 h3 h4=>?_;exact(Cw j h1 h h2 h3 h4)
theorem v9 {α:Type}{xs:List α}{j:Nat}{v:α}(h:xs[j]?=some v):atI xs (j:Int)=some v:=by
 have hj:j<xs.length:=(cU h).1;have e:tK xs.length (j:Int)=some j:=by
  unfold tK;rw[if_pos (by omega),if_pos (by omega)];simp
 unfold atI;rw[e];exact h
theorem yZ {α:Type}(xs:List α)(v:α):atI (xs ++ [v]) (-1)=some v:=by
 have hl:(xs ++ [v]).length=xs.length+1:=by simp
 have e:tK (xs ++ [v]).length (-1)=some xs.length:=by
  unfold tK;rw[hl,if_neg (by decide),if_pos (by omega)];congr 1;omega
 unfold atI;rw[e];show (xs ++ [v])[xs.length]?=some v;simp
noncomputable def qN (b:Expr):Prop:=∀o i,subscripted b false o i=operate [o,i] (getItem o i)
noncomputable def IxR (X:Cx)(r:R2):Prop:=
 ∀(value slice:Expr) (pins:List (Addr×Obj)) (s:Shared) (σ:St) (H:Hp) (x y:V) (v u:Value) (Q:VK),Inv X pins σ H s→RelV x v→RelV y u→r x y H Q→
  subscripted slice false v u=operate [v,u] (getItem v u)→wpAny (model X.prog X.w) X.A (subscriptTail value slice v u) (EP X pins σ Q) X.xe s
noncomputable def DV (X:Cx)(id:String)(r:V→List V→Hp→VK→Prop):Prop:=
 ∀(pins:List (Addr×Obj)) (s:Shared) (σ:St) (H:Hp) (x:V) (xs:List V) (v:Value) (us:List Value) (Q:VK),Inv X pins σ H s→RelV x v→Vals xs us→r x xs H Q→
  wpAny (model X.prog X.w) X.A (call (.builtin id) (v::us)) (EP X pins σ Q) X.xe s
section
variable{X:Cx}{a b:Expr}{ta tb:TE}{pos:Pos}
theorem IxR.or {r r':R2}(h:IxR X r)(h':IxR X r'):IxR X (fun x y H Q=>r x y H Q∨r' x y H Q):=by
 intro K J pins s σ H x y v u Q I rx ry q hs
 rcases q with q|q
 ·exact h K J pins s σ H x y v u Q I rx ry q hs
 ·exact h' K J pins s σ H x y v u Q I rx ry q hs
theorem Em {r:R2}(hr:IxR X r)(ha:PE X a ta)(hb:PE X b tb)(hs:qN b):PE X (.Subscript a b pos) (JS r ta tb):=by
 intro pins s σ H Q I h;exact Subscript_ (Ji ha hb I h fun v u s2 x y H2 I2 rx ry q=>hr a b pins s2 σ H2 x y v u Q I2 rx ry q (hs _ _))
noncomputable def Iy (K:W.Frag):R2:=fun x y H Q=>∃p xs i v,x= .ref p∧y= .int i∧gC K H p xs∧atI xs i=some v∧Q v H
noncomputable def IA (K:W.Frag):R2:=fun x y H Q=>∃p xs i v,x= .ref p∧y= .int i∧nk K H p xs∧atI xs i=some v∧Q v H
noncomputable def Iz:R2:=fun x y H Q=>∃z i c,x= .str z∧y= .int i∧z.length≤sizeLine∧atI z.cps.toList i=some c∧Q (.str ⟨#[c]⟩) H
theorem ix_list:IxR X (Iy X.K):=by
 intro value slice pins s σ H x y v u Q I rx ry h hs;refine DO (h) fun p xs i z hS23 hS24 hq he q=>?_;subst hS23;subst hS24;cases rx;refine cps fun PP kP=>?_;obtain⟨t,rfl⟩:=ry;refine cj (I.list hq) fun its r pl hz=>?_;refine uD (qR he) fun j h1 h2 h3 h4 h5=>?_;obtain⟨w,ew,rw'⟩:=r.get h2;refine kP ?_;clear kP PP;have hl:=r.length;have hn:=oR;have fin:EP X pins σ Q w s:=⟨z,H,I,rw',q⟩;by_cases h0:0≤i
 ·have hj:i.toNat=j:=by
   rw[seqIndex_of h0 h5]at h1;exact Option.some.inj h1
  exact item_listR pl.isList h0 (by omega) (by rw[hj];simpa using ew) fin hs
 ·have hj:(i+(its.toArray.size:Int)).toNat=j:=by
   rw[seqIndex_neg (by omega) h4]at h1;rw[size_toArray,←hl];exact Option.some.inj h1
  exact subscriptTail_builtinR (x:=w) pl.isList.typeIs slot_list_getitem.lookup
   (wpAny_getItem_list_neg (Q:=fun r s'=>r=w∧EP X pins σ Q r s') pl.isList (by omega) (by rw[size_toArray] <;> omega) (by omega) (by rw[hj];simpa using ew) ⟨rfl,fin⟩) hs
theorem ix_tup:IxR X (IA X.K):=by
 intro value slice pins s σ H x y v u Q I rx ry h hs;refine DO (h) fun p xs i z hS25 hS26 hq he q=>?_;subst hS25;subst hS26;cases rx;refine cps fun PP kP=>?_;obtain⟨t,rfl⟩:=ry;refine cj (I.tuple hq) fun its r pl hz=>?_;refine uD (qR he) fun j h1 h2 h3 h4 h5=>?_;obtain⟨w,ew,rw'⟩:=r.get h2;refine kP ?_;clear kP PP;have hl:=r.length;have hn:=oR;have fin:EP X pins σ Q w s:=⟨z,H,I,rw',q⟩;exact subscriptTail_builtinR (x:=w) pl.typeIs slot_tuple_getitem.lookup
  (getItem_tuple (j:=j) (Q:=fun r s'=>r=w∧EP X pins σ Q r s') pl (by omega) (by omega) (by rw[size_toArray,←hl];exact h1) (by simpa using ew) ⟨rfl,fin⟩) hs
theorem FB:IxR X Iz:=by
 intro value slice pins s σ H x y v u Q I rx ry h hs;refine cps fun PP kP=>?_;refine ie (h) fun z i c hS27 hS28 hz he q=>?_;subst hS27;subst hS28;obtain⟨t,rfl⟩:=rx;obtain⟨t',rfl⟩:=ry;refine uD (qR he) fun j h1 h2 h3 h4 h5=>?_;refine kP ?_;clear kP PP;have hl:z.cps.toList.length=z.length:=by simp[Str.length]
 rw[hl]at h1 h4 h5;have hn:=oR;exact tail_any (typeIs_str s z t) slot_str_getitem.lookup (getItem_str (c:=c) (by
  have e1:decide (i < -(2 ^ 63:Int))=false:=decide_eq_false (by omega);have e2:decide (i ≥ 2 ^ 63)=false:=decide_eq_false (by omega);rw[e1,e2,Bool.or_false]) (by rw[h1];simpa using h2) ⟨.str ⟨#[c]⟩,H,I.tok _,⟨_,rfl⟩,q⟩) hs
noncomputable def JX (K:W.Frag):R2:=fun x y H Q=>Iy K x y H Q∨IA K x y H Q∨Iz x y H Q
theorem FA:IxR X (JX X.K):=ix_list.or (ix_tup.or FB)
theorem vn (its:List Value)(n j:Nat)(u:Value):Obj.mapSeq (·.setIfInBounds j u) {cls:=.type "list",data:=.seq its.toArray n}={cls:=.type "list",data:=.seq (its.set j u).toArray n}:=by
 simp[Obj.mapSeq]
theorem Inv.lst {pins:List (Addr×Obj)}{σ:St}{H:Hp}{s:Shared}{p:Addr}{xs:List V}(I:Inv X pins σ H s)(h:H p=some (.lst xs)) :
  ∃(its:List Value) (n:Nat),Vals xs its∧s.heap.get? p=some {cls:=.type "list",data:=.seq its.toArray n}∧xs.length≤sizeLine:=by
 refine yJ (I.hok p _ h) fun z its n r e=>?_;exact(dR its n r e z)
theorem Inv.lstUpd {pins:List (Addr×Obj)}{σ:St}{H:Hp}{s:Shared}{p:Addr}{xs ys:List V}{its its':List Value}{n n':Nat}{f:Obj→Obj}(I:Inv X pins σ H s)(h:H p=some (.lst xs))
  (ho:s.heap.get? p=some {cls:=.type "list",data:=.seq its.toArray n}) (hf:f {cls:=.type "list",data:=.seq its.toArray n}={cls:=.type "list",data:=.seq its'.toArray n'}) (r:Vals ys its') (hz:ys.length≤sizeLine) (t:Nat) :
  Inv X pins σ (bo H p (.lst ys)) {s with heap:=s.heap.update p f,toks:=t}:=by
 have e:(s.heap.update p f).get? p=some {cls:=.type "list",data:=.seq its'.toArray n'}:=by
  rw[Heap.get?_update_self f ho (by rw[hf] <;> rfl),hf]
 refine I.write (x:=p) (e:=p) (by rw[h];trivial) (.inl rfl) (fun b u hb q=>(Heap.get?_update_other _ _ (Ne.symm hb)).trans q) ⟨_,e⟩ ?_;exact(oB hz its' n' r e)
noncomputable def IB:V→V→V→Hp→(Hp→Prop)→Prop:=fun o i v H Q=>∃p xs k j,o= .ref p∧i= .int k∧H p=some (.lst xs)∧tK xs.length k=some j∧Q (bo H p (.lst (xs.set j v)))
theorem AW:He X IB:=by
 intro pins s σ H o i v ov iv u Q I ro ri rv h;refine DO (h) fun p xs k j hS29 hS30 hp hj q=>?_;subst hS29;subst hS30;cases ro;obtain⟨t,rfl⟩:=ri;refine bA (I.lst hp) fun its n r ho hz=>?_;refine mE (rG hj) fun h1 h2 h3 h4=>?_;have hl:=r.length;have hn:=oR;have I':Inv X pins σ (bo H p (.lst (xs.set j v))) {s with heap:=s.heap.update p (Obj.mapSeq (·.setIfInBounds j u))}:=
  I.lstUpd hp ho (vn its n j u) (r.set rv j) (by rw[length_set];exact hz) s.toks
 by_cases h0:0≤k
 ·have hk:k.toNat=j:=by
   rw[seqIndex_of h0 h4]at h1;exact Option.some.inj h1
  exact W.ki_setAt ho h0 (by omega) (by rw[size_toArray,←hl];exact h4) (by rw[hk];exact⟨_,I',q⟩)
 ·have hk:(k+(its.toArray.size:Int)).toNat=j:=by
   rw[seqIndex_neg (by omega) h3]at h1;rw[size_toArray,←hl];exact Option.some.inj h1
  exact W.ki_setBack ho (by omega) (by rw[size_toArray,←hl];exact h3) (by omega) (by rw[hk];exact⟨_,I',q⟩)
theorem DX (i n:Int)(hn:0≤n):max 0 (min (if i<0 then i+n else i) n)=if i<0 then max (i+n) 0 else min i n:=by
 by_cases h:i<0
 ·rw[if_pos h,if_pos h,Int.min_eq_left (by omega),Int.max_comm]
 ·rw[if_neg h,if_neg h,Int.max_eq_right (Int.le_min.mpr ⟨Int.not_lt.mp h,hn⟩)]
theorem sm (lo hi:Option Int)(n:Nat):(sliceBounds lo hi none n).1=((HT.cS n 0 lo:Nat):Int)∧(sliceBounds lo hi none n).2.1=((HT.cS n n hi:Nat):Int)∧(sliceBounds lo hi none n).2.2=1:=by
 refine⟨?_,?_,rfl⟩
 ·cases lo with
  |none=>simp[sliceBounds,HT.cS]
  |some i=>
   rw[←HT.np i n 0,←DX i n (natCast_nonneg n)];simp only[sliceBounds,getD_none,show (1:Int)>0 by decide,if_true]
 ·cases hi with
  |none=>simp[sliceBounds,HT.cS]
  |some i=>
   rw[←HT.np i n n,←DX i n (natCast_nonneg n)];simp only[sliceBounds,getD_none,show (1:Int)>0 by decide,if_true]
theorem pV (its:List Value)(lo hi:Option Int):slicePick its.toArray lo hi none=((its.drop (HT.cS its.length 0 lo)).take (HT.cS its.length its.length hi-HT.cS its.length 0 lo)).toArray:=by
 obtain⟨h1,h2,h3⟩:=sm lo hi its.toArray.size;unfold slicePick;rw[h1,h2,h3];simp only[sliceRange_one,pick_run,size_toArray] <;> rfl
noncomputable def JA (K:W.Frag):V→Option Int→Option Int→Hp→VK→Prop:=fun x lo hi H Q=>∃a xs,x= .ref a∧gC K H a xs∧∀p,H p=none→Q (.ref p) (bo H p (.lst (sV xs lo hi)))
theorem sl_list:SlR X (JA X.K):=by
 intro pins s σ H x v vl vu lo hi sl Q I rx hs pl pu h;refine bA (h) fun a xs hS31 hx q=>?_;subst hS31;cases rx;refine cj (I.list hx) fun its r ht hz=>?_;have hlen:=r.length;refine(dR "list" _ slot_list_getitem.lookup ht.isList.typeIs ?_);refine wpAny_getItem_list_slice ht.isList hs pl pu .none (by simp) ?_ (by rw[size_toArray] <;> omega);rw[pV,←hlen];refine⟨.ref s.heap.objs.size,_,I.laid (t':=s.toks) (o:=.lst (sV xs lo hi)) (fun b ob q=>Heap.get?_push_of_some _ q) (le_refl _) ?_,rfl,q _ (I.hok.fresh (le_refl _))⟩;exact(oB (le_trans (mF xs lo hi) hz) _ 0 ((r.drop (HT.cS xs.length 0 lo)).take (HT.cS xs.length xs.length hi-HT.cS xs.length 0 lo)) (Heap.get?_push_size _ rfl))
theorem qS:eD X (.builtin "len") (fun xs H Q=>∃p ys,xs=[.ref p]∧(gC X.K H p ys∨nk X.K H p ys)∧Q (.int ys.length) H):=by
 intro pins s σ H xs us Q I r h;refine cps fun PP kP=>?_;refine bA (h) fun p ys hS32 hq q=>?_;subst hS32;obtain⟨u,rfl,rx⟩:=ke r;refine kP ?_;clear kP PP;cases rx;have hn:=oR
 rcases hq with hq|hq
 ·refine cj (I.list hq) fun its r' pl hz=>?_;have A:=r'.length;exact Calls.call_len_list pl.isList (by simp only[size_toArray] <;> omega) ⟨.int ys.length,H,I.tok _,⟨s.toks+1,by rw[size_toArray,A]⟩,q⟩
 ·refine cj (I.tuple hq) fun its r' pl hz=>?_;have A:=r'.length;exact len_tuple pl (by simp only[size_toArray] <;> omega) ⟨.int ys.length,H,I.tok _,⟨s.toks+1,by rw[size_toArray,A]⟩,q⟩
theorem iG:eD X (.type "list") (fun xs H Q=>∃p ys,xs=[.ref p]∧(gC X.K H p ys∨nk X.K H p ys)∧∀l,H l=none→Q (.ref l) (bo H l (.lst ys))):=by
 intro pins s σ H xs us Q I r h;refine cps fun PP kP=>?_;refine bA (h) fun p ys hS33 hq q=>?_;subst hS33;obtain⟨u,rfl,rx⟩:=ke r;refine kP ?_;clear kP PP;cases rx;have fin:∀(L:List Value),Vals ys L→ys.length≤sizeLine→∀(M:Heap) (c':Nat),(∀b o',s.heap.get? b=some o'→M.get? b=some o')→
   M.get? s.heap.objs.size=some {cls:=.type "list",dict:=none,data:=.seq L.toArray c',slots:= #[]}→EP X pins σ Q (.ref s.heap.objs.size) {s with heap:=M}:=fun L r' hz M c' kp e=>
  ⟨.ref s.heap.objs.size,_,I.laid (t':=s.toks) kp (le_refl _) (show ObjOk X.prog X.w _ M _ (.lst ys) from (oB hz L c' r' e)),rfl,q _ (I.hok.fresh (le_refl _))⟩
 rcases hq with hq|hq
 ·refine cj (I.list hq) fun L r' pl hz=>?_;have hlen:=r'.length;refine yL (pl.isList) fun o ho hc n hd=>?_;exact call_list_seq p (.inl rfl) ho hc hd (fun M c' kp e=>fin L r' hz M c' kp e) (by simp only[size_toArray] <;> omega)
 ·refine cj (I.tuple hq) fun L r' pl hz=>?_;have hlen:=r'.length;refine yL (pl) fun o ho hc n hd=>?_;exact call_list_seq p (.inr rfl) ho hc hd (fun M c' kp e=>fin L r' hz M c' kp e) (by simp only[size_toArray] <;> omega)
theorem pK:eD X (.type "tuple") (fun xs H Q=>∃p ys,xs=[.ref p]∧((gC X.K H p ys∧∀l,H l=none→Q (.ref l) (bo H l (.tup ys)))∨(nk X.K H p ys∧Q (.ref p) H))):=by
 intro pins s σ H xs us Q I r h;refine cps fun PP kP=>?_;obtain⟨p,ys,rfl,h⟩:=h;obtain⟨u,rfl,rx⟩:=ke r;refine kP ?_;clear kP PP;cases rx
 rcases h with ⟨hq,q⟩|⟨hq,q⟩
 ·obtain⟨its,r',pl,hz⟩:=I.list hq;have hlen:=r'.length;refine call_tuple_list pl.isList (fun h' kp=>?_) (by simp only[size_toArray] <;> omega);have I1:Inv X pins σ H {s with heap:=h'}:=I.kept (t':=s.toks) kp
  have I2:Inv X pins σ (bo H h'.objs.size (.tup ys)) {s with heap:=h'.push {cls:=.type "tuple",data:=.seq its.toArray}}:=
   I1.laid (t':=s.toks) (fun b o e=>Heap.get?_push_of_some _ e) (le_refl _) (show ObjOk X.prog X.w _ _ _ (.tup ys) from ⟨hz,its,r',IsTup.new _ _⟩)
  exact⟨.ref h'.objs.size,_,I2,rfl,q _ (I1.hok.fresh (le_refl _))⟩
 ·obtain⟨its,r',pl,hz⟩:=I.tuple hq;exact call_tuple_same pl ⟨.ref p,H,I,rfl,q⟩
noncomputable def JN (K:W.Frag)(T:String)(x:V)(H:Hp):Prop:=match x with
 |.str _=>T= "str"
 |.int _=>T= "int"
 |.ref p=>(T= "list" ∧∃xs,gC K H p xs)∨(T= "tuple" ∧∃o,K.lookup p=some o∧o.cls= .type "tuple" ∧o.dict=none)∨
   (T= "dict" ∧((∃kvs,H p=some (.dK kvs))∨∃kvs,H p=some (.dT kvs)))∨(T= "set" ∧∃S n,H p=some (.set S n))
 |_=>False
theorem Bf {pins:List (Addr×Obj)}{σ:St}{H:Hp}{s:Shared}{T:String}{x:V}{v:Value}(I:Inv X pins σ H s)(r:RelV x v)(ty:JN X.K T x H) :
  s.TypeIs v T∧∀a,v= .ref a→∃ob,s.heap.get? a=some ob∧ob.dict=none:=by
 cases x with
 |str z=>
  obtain⟨t,rfl⟩:=r;cases (show T= "str" from ty);exact⟨typeIs_str s z t,fun _ e=>nomatch e⟩
 |int i=>
  obtain⟨t,rfl⟩:=r;cases (show T= "int" from ty);exact⟨typeIs_int s i t,fun _ e=>nomatch e⟩
 |ref p=>
  cases r
  rcases ty with ⟨rfl,xs,hq⟩|⟨rfl,o,M,hc,hd⟩|⟨rfl,M⟩|⟨rfl,S,n,M⟩
  ·refine cj (I.list hq) fun its _ pl _=>?_;refine⟨pl.isList.typeIs,fun a e=>?_⟩;cases e;refine pG (pl) fun o n e c hd _=>?_;exact⟨o,e,hd⟩
  ·refine⟨⟨o,I.kIn p o M,hc⟩,fun a e=>?_⟩;cases e;exact⟨o,I.kIn _ o M,hd⟩
  ·have z:∃o,s.heap.get? p=some o∧o.ExactDict:=by
    rcases M with ⟨kvs,M⟩|⟨kvs,M⟩
    ·refine IK (I.hok p _ M) fun _ _ _ _ o _ _ e N _=>?_;exact⟨o,e,N⟩
    ·refine IK (I.hok p _ M) fun _ _ _ _ o _ _ e N _=>?_;exact⟨o,e,N⟩
   obtain⟨o,e,N⟩:=z;refine⟨⟨o,e,N.1⟩,fun a e2=>?_⟩;cases e2;exact⟨o,e,N.2.1⟩
  ·obtain⟨o,_,_,_,e,N,_⟩:=I.hok p _ M;refine⟨⟨o,e,N.1⟩,fun a e2=>?_⟩;cases e2;exact⟨o,e,N.2.1⟩
 |_=>exact False.elim ty
noncomputable def JD (K:W.Frag)(T:String)(r:V→List V→Hp→VK→Prop)(to:TE):TE:=fun σ H Q=>to σ H fun x H1=>JN K T x H1∧r x [] H1 Q
noncomputable def JY (K:W.Frag)(T:String)(r:V→List V→Hp→VK→Prop)(to:TE)(t:TA):TE:=fun σ H Q=>to σ H fun x H1=>JN K T x H1∧t σ H1 fun xs H2=>r x xs H2 Q
variable{o e:Expr}{es:List Expr}{to:TE}{t:TA}{name:Str}{apos cpos:Pos}{T id:String}{r:V→List V→Hp→VK→Prop}
theorem Gi (pa:PlainAttrs T)(slot:Slot T name id)(hty:typeOf (.builtin id)=pure (.type "method_descriptor"))(hm:DV X id r)(ho:PE X o to)
  (hbase:attributeBase o name X.env (eval o X.env)=eval o X.env:=by rfl) (hline:(apos.endLine==cpos.line)=true:=by rfl):PE X (.Call (.Attribute o name apos) [] [] cpos) (JD X.K T r to):=by
 intro pins s σ H Q I h;refine wpAny_Call_method0_late hbase hline (aO (ho pins s σ H _ I h) fun v s1 hZ83=>?_);refine cps fun PP kP=>?_;obtain⟨x,H1,I1,r1,ty,q1⟩:=hZ83;obtain⟨h1,h2⟩:=Bf I1 r1 ty;refine kP ?_;clear kP PP;exact(Fw T id pa slot hty h1 h2 (Calls.callWith_builtin rfl (PySem.evalArgs_none (hm pins s1 σ H1 x [] v [] Q I1 r1 .nil q1))))
theorem t9 (pa:PlainAttrs T)(slot:Slot T name id)(hty:typeOf (.builtin id)=pure (.type "method_descriptor"))(hm:DV X id r)(ho:PE X o to)(ha:PA X (e::es) t)
  (hbase:attributeBase o name X.env (eval o X.env)=eval o X.env:=by rfl)
  (hfew:((backTo cpos (starEach (e::es) X.env)).all (fun x=> !x.1)&&(backToKw cpos (keywordEach [] X.env)).all (fun x=>x.1.isSome)
  &&decide ((e::es).length+([]:List Keyword).length+(if ([]:List Keyword).isEmpty then 0 else 1)<30))=true:=by rfl)
  (hline:(apos.endLine==cpos.line)=true:=by rfl) (hs:starEach (e::es) X.env=(false,eval e X.env)::starEach es X.env:=by rfl) (hplain:(backTo cpos (starEach es X.env)).any (·.1)=false:=by rfl) :
  PE X (.Call (.Attribute o name apos) (e::es) [] cpos) (JY X.K T r to t):=by
 intro p s σ H Q I h;refine wpAny_Call_method_late hbase hfew hline rfl (aO (ho p s σ H _ I h) fun v s1 hZ84=>?_);refine cps fun PP kP=>?_;obtain⟨x,H1,I1,r1,ty,q1⟩:=hZ84;obtain⟨h1,h2⟩:=Bf I1 r1 ty;refine kP ?_;clear kP PP;refine(Fw T id pa slot hty h1 h2 ?_);have hA:=ha cpos p s1 σ H1 _ I1 q1;rw[hs]at hA ⊢;refine Calls.callWith_builtin (by show (false||(backTo cpos (starEach es X.env)).any (·.1))=false;rw[hplain] <;> rfl) (Calls.evalArgs_plain ?_);exact aO hA fun us s2 hZ85=>(by obtain⟨vs,H2,I2,r2,q2⟩:=hZ85;exact hm p s2 σ H2 x vs v us Q I2 r1 r2 q2)
end
noncomputable def Jd (X:Cx)(id:String)(r:V→List V→Hp→VK→Prop):Prop:=
 ∀(pins:List (Addr×Obj)) (s:Shared) (σ:St) (H:Hp) (x:V) (xs:List V) (v:Value) (us:List Value) (Q:VK),Inv X pins σ H s→RelV x v→Vals xs us→r x xs H Q→
  wpAny (model X.prog X.w) X.A (call (.builtin id) (v::us)) (EP X pins σ Q) X.xe s
theorem Vals.one:∀{x:V} {us:List Value},Vals [x] us→∃u,us=[u]∧RelV x u
 |_,_,.cons r .nil=>⟨_,rfl,r⟩
theorem Vals.zero:∀{us:List Value},Vals [] us→us=[]
 |_,.nil=>rfl
theorem Vals.reverse {xs:List V}{us:List Value}(h:Vals xs us):Vals xs.reverse us.reverse:=by
 induction h with
 |nil=>exact .nil
 |cons r t ih=>rw[reverse_cons,reverse_cons];exact Vals.append ih (.cons r .nil)
theorem Vals.rep {xs:List V}{us:List Value}(h:Vals xs us):∀k:Nat,Vals (replicate k xs).flatten (replicate k us).flatten
 |0=>.nil
 |k+1=>by
  rw[replicate_succ,replicate_succ,flatten_cons,flatten_cons];exact Vals.append h (Vals.rep h k)
theorem xI (its:List Value):∀(k:Nat) (acc:List Value),List.foldl (fun x1 x2=>x1 ++ x2) acc.toArray (replicate k its.toArray)=(acc ++ (replicate k its).flatten).toArray:=by
 intro l_
 induction l_ with
 |zero=>
  rintro acc;exact by simp
 |succ k ihh=>
  rintro acc;have e:acc.toArray ++ its.toArray=(acc ++ its).toArray:=by simp
  have e2:(acc ++ its) ++ (replicate k its).flatten=acc ++ (replicate (k+1) its).flatten:=by
   rw[replicate_succ,flatten_cons,append_assoc]
  rw[←e2,←ihh (acc ++ its),←e,replicate_succ,List.foldl_cons]
section
variable{X:Cx}{pins:List (Addr×Obj)}{σ:St}{H:Hp}{s:Shared}{l b:Addr}{xs ys zs:List V}
theorem Inv.lset {its its':List Value}{n:Nat}{f:Array Value→Array Value}{t':Nat}(I:Inv X pins σ H s)(hH:H l=some (.lst xs))
  (e:s.heap.get? l=some {cls:=.type "list",data:=.seq its.toArray n}) (hf:f its.toArray=its'.toArray) (hv:Vals ys its') (hz:ys.length≤sizeLine) :
  Inv X pins σ (bo H l (.lst ys)) {s with heap:=s.heap.update l (Obj.mapSeq f),toks:=t'}:=by
 have q:=PySem.IsL.update e f;rw[hf]at q;refine I.write (x:=l) (e:=l) (by rw[hH];exact trivial) (.inl rfl) (fun b' u hb hu=>(Heap.get?_update_other s.heap (Obj.mapSeq f) (Ne.symm hb)).trans hu) ⟨_,q⟩ ?_;exact(oB hz its' _ hv q)
theorem Inv.lnew {its:List Value}{t':Nat}(I:Inv X pins σ H s)(hv:Vals ys its)(hz:ys.length≤sizeLine) :
  Inv X pins σ (bo H s.heap.objs.size (.lst ys)) {s with heap:=s.heap.push {cls:=.type "list",data:=.seq its.toArray},toks:=t'}:=
 I.laid (fun _ _ q=>Heap.get?_push_of_some _ q) (le_refl _) (oB hz its 0 hv (Heap.get?_push_size _ rfl))
theorem Inv.fresh (I:Inv X pins σ H s):H s.heap.objs.size=none:=I.hok.fresh (le_refl _)
theorem Inv.lstM (I:Inv X pins σ H s)(hH:H l=some (.lst xs)):xs.length≤sizeLine∧∃(its:List Value) (n:Nat),Vals xs its∧xs.length=its.length∧s.heap.get? l=some {cls:=.type "list",data:=.seq its.toArray n}:=by
 refine yJ (I.hok l _ hH) fun z its n r e=>?_;exact(Fx z its n r r.length e)
theorem t6 {n:Nat}(h:n≤sizeLine):Builtin.List.listTooLong n=false:=by
 unfold Builtin.List.listTooLong;exact decide_eq_false (by omega)
end
section
variable{X:Cx}
noncomputable def eX:V→List V→Hp→VK→Prop:=fun x vs H Q=>∃l xs y,x= .ref l∧vs=[y]∧H l=some (.lst xs)∧xs.length<sizeLine∧Q .non (bo H l (.lst (xs ++ [y])))
theorem jU:Jd X "list.append" eX:=by
 intro pins s σ H x vs v us Q I rx rv h;refine ie (h) fun l xs y hS34 hS35 hH hz q=>?_;subst hS34;subst hS35;cases rx;obtain⟨u,rfl,ru⟩:=rv.one;refine m_ (I.lstM hH) fun z its n r hl e=>?_;refine call_meets F.slot_list_append ⟨_,e,rfl⟩ F.entry_list_append (F.args_list_append_2 _ _) (PySem.list_append l its.toArray n u (by rw[size_toArray];omega)) ⟨e,?_⟩;refine⟨.non,_,I.lset (its':=its ++ [u]) hH e (by simp) (r.append (.cons ru .nil)) ?_,rfl,q⟩;rw[length_append,length_singleton];omega
noncomputable def r_:V→List V→Hp→VK→Prop:=fun x vs H Q=>∃l b xs zs,x= .ref l∧vs=[.ref b]∧H l=some (.lst xs)∧H b=some (.lst zs)∧xs.length+zs.length≤sizeLine∧Q .non (bo H l (.lst (xs ++ zs)))
theorem yf:Jd X "list.extend" r_:=by
 intro pins s σ H x vs v us Q I rx rv h;refine IL (h) fun l b xs zs hS36 hS37 hH hB hz q=>?_;subst hS36;subst hS37;cases rx;obtain⟨u,rfl,ru⟩:=rv.one;cases ru;refine m_ (I.lstM hH) fun z K n r hl e=>?_;refine m_ (I.lstM hB) fun z2 O n2 r2 hl2 e2=>?_;have hsz:K.toArray.size+O.toArray.size≤sizeLine:=by rw[size_toArray,size_toArray];omega
 have hlong:¬(!K.toArray.isEmpty&&Builtin.List.listTooLong (K.toArray.size+O.toArray.size))=true:=by
  rw[t6 hsz,Bool.and_false];exact Bool.false_ne_true
 refine call_meets F.slot_list_extend ⟨_,e,rfl⟩ F.entry_list_extend (F.args_list_extend_2 _ _)
  (AutoSeq1.list_extend_list_list_0 l K.toArray n b O.toArray n2 hlong (by rw[size_toArray];omega) (by omega)) ⟨e,e2,?_⟩
 refine⟨.non,_,I.lset (its':=K ++ O) hH e (by simp) (r.append r2) ?_,rfl,q⟩;rw[length_append];omega
noncomputable def pe:V→List V→Hp→VK→Prop:=fun x vs H Q=>∃l xs,x= .ref l∧vs=[]∧H l=some (.lst xs)∧Q .non (bo H l (.lst xs.reverse))
theorem vp:Jd X "list.reverse" pe:=by
 intro pins s σ H x vs v us Q I rx rv h;refine pG (h) fun l xs hS38 hS39 hH q=>?_;subst hS38;subst hS39;cases rx;have hus:=rv.zero;subst hus;refine m_ (I.lstM hH) fun z its n r hl e=>?_;refine call_meets F.slot_list_reverse ⟨_,e,rfl⟩ F.entry_list_reverse (F.args_list_reverse_1 _) (AutoSeq1.list_reverse_list_0 l its.toArray n (by rw[size_toArray];omega)) ⟨e,?_⟩;refine⟨.non,_,I.lset (its':=its.reverse) hH e (by simp) r.reverse ?_,rfl,q⟩;rw[length_reverse];omega
noncomputable def Jy:R2:=fun x y H Q=>∃l b xs zs,x= .ref l∧y= .ref b∧H l=some (.lst xs)∧H b=some (.lst zs)∧xs.length+zs.length≤sizeLine∧∀p,H p=none→Q (.ref p) (bo H p (.lst (xs ++ zs)))
theorem FX:sI X (binaryOp .Add) Jy:=by
 intro pins s σ H x y v u Q I rx ry h;refine IL (h) fun l b xs zs hS40 hS41 hH hB hz q=>?_;subst hS40;subst hS41;cases rx;cases ry;refine m_ (I.lstM hH) fun z its n r hl e=>?_;refine m_ (I.lstM hB) fun z2 its2 n2 r2 hl2 e2=>?_;refine PySem.P.add_list e e2 ?_ (by rw[size_toArray,size_toArray];omega);have ea:its.toArray ++ its2.toArray=(its ++ its2).toArray:=by simp
 rw[ea];exact⟨.ref _,_,I.lnew (t':=s.toks) (r.append r2) (by rw[length_append];omega),rfl,q _ I.fresh⟩
noncomputable def Jz:R2:=fun x y H Q=>∃l k xs,x= .ref l∧y= .int k∧H l=some (.lst xs)∧ -(2 ^ 63)≤k∧k<2 ^ 63∧xs.length*k.toNat≤sizeLine∧
 ∀p,H p=none→Q (.ref p) (bo H p (.lst (replicate k.toNat xs).flatten))
theorem CF {α:Type}(xs:List α)(k:Nat):(replicate k xs).flatten.length=k*xs.length:=by
 induction k with
 |zero=>simp
 |succ k ih=>rw[replicate_succ,flatten_cons,length_append,ih,Nat.succ_mul,Nat.add_comm]
theorem F_:sI X (binaryOp .Mult) Jz:=by
 intro pins s σ H x y v u Q I rx ry h;obtain⟨l,k,xs,rfl,rfl,hH,h1,h2,hz,q⟩:=h;cases rx;obtain⟨t,rfl⟩:=ry;refine m_ (I.lstM hH) fun z K n r hl e=>?_;have hlen:K.toArray.size*k.toNat≤sizeLine:=by rw[size_toArray,←hl];exact hz
 have hcap:¬K.toArray.size*k.toNat>(2 ^ 63-1) / 8:=by
  have:(sizeLine:Nat)≤(2 ^ 63-1) / 8:=by decide
  omega
 have hfit:¬(!Builtin.List.listFitsIndex k)=true:=by
  rw[fitsIndex_both h1 h2];exact Bool.false_ne_true
 have hlong:¬Builtin.List.listTooLong (K.toArray.size*k.toNat)=true:=by
  rw[t6 hlen];exact Bool.false_ne_true
 have hnew:List.foldl (fun x1 x2=>x1 ++ x2) #[] (replicate (if K.toArray.isEmpty=true then 0 else k.toNat) K.toArray)=(replicate k.toNat K).flatten.toArray:=by
  have f0:∀m:Nat,List.foldl (fun x1 x2=>x1 ++ x2) #[] (replicate m K.toArray)=(replicate m K).flatten.toArray:=fun m=>by
   have:=xI K m [];rw[List.nil_append]at this;exact this
  rw[f0];cases K with
  |nil=>simp
  |cons a r'=>rw[if_neg (by simp)]
 refine wpAny_binaryOp_repeat_ref (T:= "list") (U:= "int") (by decide) ⟨_,e,rfl⟩ (fun s'=>typeIs_int s' k t) noFill_list_mul F.fills_int_mul F.slot_int_rmul repeat_list F.slot_int_index.lookup
  (call_meets F.slot_int_rmul (typeIs_int s k t) F.entry_int_rmul (F.args_int_rmul_2 _ _) (int___rmul___int_list k t l K.toArray n)
   (m3 e rfl ⟨_,e,rfl⟩ (call_meets F.slot_list_mul ⟨_,e,rfl⟩ F.entry_list_mul (F.args_list_mul_2 _ _) (AutoListH.list___mul___list_int_3 l K.toArray n k t hfit hcap hlong) ⟨e,?_⟩)))
 rw[hnew];exact⟨.ref _,_,I.lnew (t':=s.toks) (r.rep k.toNat) (by rw[CF,Nat.mul_comm];exact hz),rfl,q _ I.fresh⟩
end
section
variable{prog:Program}{w:World}{A:Around}{E:Value→Shared→Prop}{s:Shared}
end
section
variable{X:Cx}
end
end L2
namespace Att
open PySem PySem.W PySem.Calls PyProof.Rows
theorem mZ {P:Params}{h:Heap}:∀(ns:List Int) (vs:List Value),WellAll P h vs (ns.map WData.int)→IntsAre vs ns:=by
 intro ns
 induction ns with
 |nil=>
  intro vs w;rw[map_nil]at w;cases w;exact .nil
 |cons n ns ih=>
  intro vs w;rw[map_cons]at w;cases w with
  |cons a b=>
   cases a;exact .cons _ _ (ih _ b)
theorem yu {l:OpenLaw}{n:Nat}(hn:l.most=some n){P:Params}{h:Heap}{args:List WData}{vals:List Value}
  (hpre:l.row.toRowW.claim.pre args=true) (hwl:WellAll P h vals args) :
  ∃a vs ns,vals=[Value.ref a]∧args=[WData.list (ns.map WData.int)]∧h.get? a=some {cls:=.type "list",data:=.seq vs.toArray}∧IntsAre vs ns∧ns.length≤n:=by
 have hsh:WShape.hasAll [] args [.list .int]=true:=(pre_splitW hpre).1;have hc:l.pre.holds [] {args:=args}=true:=(pre_splitW hpre).2;refine bA (hasAllW_cons hsh) fun d r hS42 h1 h2=>?_;subst hS42;obtain rfl:=hasAllW_nil h2;obtain⟨xs,rfl,h3⟩:=hasW_list h1;obtain⟨ns,rfl⟩:=items_int h3;have hlen:ns.length≤n:=by
  unfold OpenLaw.pre at hc;have h4:(WTm.not (.lt (.lit (.int (n:Int))) (.len (.arg 0)))).holds [] {args:=[.list (ns.map .int)]}=true:=by
   have h4:=(holds_andW hc).1;rw[hn]at h4;exact h4
  have h5:=condW_of h4 (w_not (w_lt w_lit (w_len_list (w_arg rfl))));rw[length_map]at h5;refine Nat.le_of_not_lt fun q=>?_;have q':(n:Int)<((ns.length:Nat):Int):=by omega
  first
   |(rw[decide_eq_true q']at h5;exact absurd h5 (by decide))
   |(simp at h5;omega)
 cases hwl with
 |cons w1 w2=>
  cases w2;cases w1 with
  |list ho hall=>exact(nC _ _ ns rfl rfl ho (mZ ns _ hall) hlen)
theorem yq (l:OpenLaw)(args:List WData):l.row.toRowW.claim.post args (.bool true) args=true:=
 postW_of (r:=l.row.toRowW) (X:=(true==true))
  (show WShape.has [] (.bool true) .bool=true by first|rfl|decide|simp[WShape.has,WShape.arms,WShape.armsAll])
  (show (WTm.eq .res (.lit (.bool true))).value [] {args:=args,res:=some (.bool true),after:=args}=some (.bool (true==true)) from w_eq_bool (w_res rfl) w_lit) rfl
theorem sN {l:OpenLaw}{n:Nat}{q:Program}{loose:List Str}{XP:(Str→Option Value)→Heap→Prop}{YP:World→Heap→Prop}{d:DefRec}
  (hn:l.most=some n) (hdf:d.params.defaults=[])
  (call:∀(w:World) (s₀ s₁:Shared) (mg mb:Str→Option Value) (fa:Addr) (o:Obj) (pm cd doc:Value) (a:Addr) (vs:List Value) (ns:List Int),
   Ground q loose [] XP w s₀ mg mb s₁.heap→YP w s₁.heap→
   s₁.heap.get? fa=some o→o.data= .func (docDef d.name d.params d.body d.scope pm cd doc)→s₁.heap.CodeRec cd d.name→mg d.name=some (.ref fa)→
   s₁.heap.get? a=some {cls:=.type "list",data:=.seq vs.toArray}→IntsAre vs ns→ns.length≤n→s₁.gens= #[]→
   codeAny (model l.prog w) callerA (.call (.ref fa) ⟨[.ref a],[]⟩) (fun r s'=>r= .ok (.ret (.bool true))∧OldK s₁.heap s'.heap∧s'.os=s₁.os∧AllBare s'.gens) s₁) :
  WalkO q loose XP YP l.row.toRowW d [] (fun f vs=>PySem.call f vs):=by
 intro w s₀ s₁ mg mb G Y fa o pm cd doc dV kV ho hd hcd hD hmg hg args vals as hpre hlay hrd hwl hlo;obtain rfl:dV= .none:=Dflts.none hD hdf;obtain rfl:kV= .none:=Dflts.noKw hD;refine ie (yu hn hpre hwl) fun a vs ns hS43 hS44 hobj hints hlen=>?_;subst hS43;subst hS44;refine enter_call (codeAny_mono (call w s₀ s₁ mg mb fa o pm cd doc a vs ns G Y ho (fd_plain hd) hcd hmg hobj hints hlen hg) fun r s' hq=>?_);refine mE (hq) fun hS45 h2 h3 h4=>?_;subst hS45;exact(m3 (.inl (nC (.bool true) (.bool true) ([]) rfl (fun _=>rfl) (.bool true) (yq l _) (fun _=>⟨List.Pairwise.nil,fun _ hm=>(nomatch hm)⟩))) h2 h3 h4)
section
variable{prog:Program}{w:World}{A:Around}{E:Value→Shared→Prop}{s:Shared}{K:Frag}
end
end Att
namespace L2
open PySem PySem.Spec PyProof.Rows
theorem qH:∀{vs:List Value} {ns:List Int},IntsAre vs ns→Vals (ns.map V.int) vs
 |_,_,.nil=>.nil
 |_,_,.cons n t h=>.cons ⟨t,rfl⟩ (qH h)
noncomputable def Ez (H:Hp):Prop:=∀b,H b=none∨∃o xs,H b=some (.frz o (.lst xs))
theorem zQ {P:Program}{w:World}{K:W.Frag}{mg mb:Str→Option Value}{CX:sH}{k:Nat}{fa a:Addr}{fd:FuncData}{x:Str}{sp:Sp}{s₁:Shared}{vs:List Value}{ns:List Int}
  (KX:K.In s₁.heap) (hns:s₁.heap.Ns mainGlobals mg) (hb:s₁.heap.Ns builtinsNs mb) (hbb:∀x:Str,x≠ "__name__" →mb x=bootBuiltins x) (hlim:s₁.heap.NoLimit) (hg:s₁.gens= #[])
  (ha:s₁.heap.get? a=some {cls:=.type "list",data:=.seq vs.toArray}) (hi:IntsAre vs ns) (hl:ns.length≤sizeLine) (hr:Room k callerA)
  (F:∀base:Heap,K.In base→base.Ns mainGlobals mg→FnOk P w K mg base CX k fa fd [x] sp) (hbind:∀(s:Shared) (u:Value),BindsTo s fd ⟨[u],[]⟩ [(x,u)])
  (hsp:∀H:Hp,Ez H→gC K H a (ns.map V.int)→sp [.ref a] H (fun v _=>v= .bl true) fun _ _ _=>False)
  (hCX:∀H e s',CX [] H s₁ (fun _ _ _=>False) e s'→False) :
  codeAny (model P w) callerA (.call (.ref fa) ⟨[.ref a],[]⟩) (fun r s'=>r= .ok (.ret (.bool true))∧OldK s₁.heap s'.heap∧s'.os=s₁.os∧AllBare s'.gens) s₁:=by
 have rv:=qH hi;have lenV:=hi.length
 -- from an abstract heap in which nothing but the script may be tracked
 have core:∀H:Hp,Ez H→gC K H a (ns.map V.int)→HOk P w H s₁.heap→(∀b,H b≠none→b=a)→(H a≠none→K.lookup a=none)→
   codeAny (model P w) callerA (.call (.ref fa) ⟨[.ref a],[]⟩) (fun r s'=>r= .ok (.ret (.bool true))∧OldK s₁.heap s'.heap∧s'.os=s₁.os∧AllBare s'.gens) s₁:=by
  intro H hO hS hok hA hK;have Q:∀{b:Addr} {o:Obj},s₁.heap.get? b=some o→H b=none→(rq s₁.heap H).get? b=some o:=fun e n=>zD e n;have noA:∀{b:Addr} {o:Obj} {es:Array DictEntry} {ep:Nat},s₁.heap.get? b=some o→o.data= .dict es ep→H b=none:=fun {b o es ep} e d=>by
   cases q:H b with
   |none=>rfl
   |some u=>
    have e':b=a:=hA b (by rw[q];simp);subst e';rw[ha]at e;cases e;have d':Data.seq vs.toArray _=Data.dict es ep:=d;cases d'
  have R:∀{b:Addr} {m:Str→Option Value},s₁.heap.Ns b m→(rq s₁.heap H).Ns b m:=fun {b m} hZ86=>(by refine m9 (hZ86) fun o es ep e d r=>?_;exact(HG o es ep (Q e (noA e d)) d r));have hKb:K.In (rq s₁.heap H):=fun b o e=>Q (KX b o e) (by
   cases q:H b with
   |none=>rfl
   |some u=>
    have e':b=a:=hA b (by rw[q];simp);subst e';rw[hK (by rw[q];simp)]at e;cases e)
  have hM:Mod K mg (rq s₁.heap H):=⟨hKb,R hns,⟨mb,R hb,hbb⟩,let ⟨mc,h1,h2⟩:=hlim;⟨mc,R h1,h2⟩⟩
  have e0:Env0 P w K mg (rq s₁.heap H) callerA [] s₁ H:=⟨rfl,hM,fun b o e=>CH e,Nat.le_of_eq (xS _ _),trivial,fun b hb=>absurd (show b∈([]:List Addr) from hb) (by simp),hok,.of_eq hg⟩;refine codeAny_mono ((F _ hKb (R hns)).run callerA [] s₁ H ⟨[.ref a],[]⟩ [.ref a] [.ref a] _ _ hr e0 (hbind s₁ (.ref a)) (.cons rfl .nil) (hsp H hO hS)) fun r s' h=>?_;cases r with
  |error e=>exact(hCX H e s' h).elim
  |ok fl=>
   cases fl with
   |next=>exact False.elim h
   |brk=>exact False.elim h
   |cont=>exact False.elim h
   |ret u=>
    obtain⟨v,H',os,bare,un,hok',r',q⟩:=h;have q':v= .bl true:=q;subst q';obtain rfl:u=Value.bool true:=r';refine(m3 rfl (OldK.of_keep fun b o e=>?_) os bare);cases q:H b with
    |none=>exact un.keep b o e q (by intro z;exact absurd (show b∈([]:List Addr) from z) (by simp)) (by simp)
    |some u=>
     rcases hO b with z|⟨ob,xs,z⟩
     ·rw[q]at z;cases z
     ·have z2:=un.frzs b ob _ z;obtain⟨e1,_⟩:=hok b _ z;obtain⟨e2,_⟩:=hok' b _ z2;rw[e]at e1;cases e1;exact e2
 cases hk:K.lookup a with
 |some o=>
  -- the script is one of the module's own objects
  have e:=KX a o hk;rw[ha]at e;cases e;refine core (fun _=>none) (fun _=>.inl rfl) (.inr (HH _ vs.toArray _ hk rfl rfl rfl (by rw[size_toArray,lenV];exact hl) (by simpa using rv))) (fun b u z=>by have z':(none:Option HO)=some u:=z;cases z') (fun b z=>absurd rfl z) fun z=>absurd rfl z
 |none=>
  refine core (fun b=>if b=a then some (.frz {cls:=.type "list",data:=.seq vs.toArray} (.lst (ns.map V.int))) else none) (fun b=>?_) (.inl (.inr ⟨{cls:=.type "list",data:=.seq vs.toArray},if_pos rfl⟩)) (fun b u z=>?_) (fun b z=>?_) fun _=>hk
  ·by_cases hb:b=a
   ·exact .inr ⟨_,_,if_pos hb⟩
   ·exact .inl (if_neg hb)
  ·by_cases hb:b=a
   ·have z':=(if_pos hb).symm.trans z;cases z';subst hb;exact⟨ha,by rw[length_map];exact hl,vs,_,rv,ha⟩
   ·have z':=(if_neg hb).symm.trans z;cases z'
  ·by_cases hb:b=a
   ·exact hb
   ·exact absurd (if_neg hb) z
theorem DN {l:W.OpenLaw}{n k:Nat}{q:Program}{loose:List Str}{XP:(Str→Option Value)→Heap→Prop}{YP:World→Heap→Prop}{d:DefRec}{K:Params→W.Frag}{CX:World→sH}{sp:World→Sp}{x:Str}
  (hn:l.most=some n) (hn2:n≤sizeLine) (hdf:d.params.defaults=[]) (hr:Room k callerA)
  (hY:∀(w:World) (h:Heap),YP w h→(K w.params).In h)
  (F:∀(w:World) (mg:Str→Option Value) (fa:Addr) (h:Heap),(K w.params).In h→h.Ns mainGlobals mg→mg d.name=some (.ref fa)→
   ∃fd:FuncData,(∀(s:Shared) (u:Value),BindsTo s fd ⟨[u],[]⟩ [(x,u)])∧
    ∀base:Heap,(K w.params).In base→base.Ns mainGlobals mg→FnOk l.prog w (K w.params) mg base (CX w) k fa fd [x] (sp w))
  (hsp:∀(w:World) (H:Hp) (a:Addr) (ns:List Int),ns.length≤n→Ez H→gC (K w.params) H a (ns.map V.int)→sp w [.ref a] H (fun v _=>v= .bl true) fun _ _ _=>False)
  (hCX:∀(w:World) (H:Hp) (s:Shared) (e:Value) (s':Shared),CX w [] H s (fun _ _ _=>False) e s'→False) :
  W.WalkO q loose XP YP l.row.toRowW d [] (fun f vs=>PySem.call f vs):=by
 refine Att.sN hn hdf fun w s₀ s₁ mg mb fa o pm cd doc a vs ns G Y ho hd hcd hmg hobj hints hlen hg=>?_;have KX:=hY w _ Y;obtain⟨fd,hb,hF⟩:=F w mg fa _ KX G.T.g hmg;exact zQ KX G.T.g G.T.b G.T.builtins G.T.nolimit hg hobj hints (le_trans hlen hn2) hr hF hb (fun H hO hS=>hsp w H a ns hlen hO hS) fun H e s'=>hCX w H s₁ e s'
noncomputable def jQ (s:Stmt)(j:Nat):Stmt:=match s with
 |.ClassDef _ _ _ body _ _ _ _ _ _ _=>body.getD j (.Pass ⟨0,0,0,0⟩)
 |_=>.Pass ⟨0,0,0,0⟩
noncomputable def iJ (s:Stmt):Arguments:=match s with
 |.FunctionDef _ a _ _ _ _ _ _ _ _=>a
 |_=>{posonlyargs:=[],args:=[],vararg:=none,kwonlyargs:=[],kw_defaults:=[],kwarg:=none,defaults:=[]}
noncomputable def cL (s:Stmt):List Stmt:=match s with
 |.FunctionDef _ _ b _ _ _ _ _ _ _=>b
 |_=>[]
noncomputable def ag (s:Stmt):Scope:=match s with
 |.FunctionDef _ _ _ _ _ _ sc _ _ _=>sc
 |_=>{kind:=.function,names:=[],isGenerator:=false,isCoroutine:=false}
structure Fun (K:W.Frag)(x qual:Str)(st:Stmt)(f:Addr)(fd:FuncData):Prop where
 ex:∃(oc:Value) (od:Option Addr) (kV doc pm:Value) (an:Option Addr) (cdv ct:Value) (osl:Array (Option Value)),
  fd=W.fnOf x qual (iJ st) (cL st) (ag st) .none kV doc pm an cdv ct∧K.lookup f=some ⟨oc,od,.func fd,osl⟩∧W.codeIn K cdv qual=true
 kp:W.keepIn K (.ref f)=true
section
variable{P:Program}{w:World}{K:W.Frag}{mg:Str→Option Value}{base:Heap}
theorem Fun.binds {x qual:Str}{st:Stmt}{f:Addr}{fd:FuncData}{ps:List Str}(F:Fun K x qual st f fd)
  (h:∀(kV doc pm:Value) (an:Option Addr) (cdv ct:Value) (us:List Value),us.length=ps.length→bindArgs (W.fnOf x qual (iJ st) (cL st) (ag st) .none kV doc pm an cdv ct) ⟨us,[]⟩=pure (ps.zip us)):Binds K fd ps []:=by
 refine DP (F.ex) fun oc od kV doc pm an cdv ct osl hS46 lk hcd=>?_;subst hS46;exact .all (h kV doc pm an cdv ct)
theorem zx {x qual:Str}{st:Stmt}{f:Addr}{oc:Value}{od an:Option Addr}{osl:Array (Option Value)}{kV doc pm cdv ct:Value}(l:K.lookup f=some ⟨oc,od,.func (W.fnOf x qual (iJ st) (cL st) (ag st) .none kV doc pm an cdv ct),osl⟩)
  (c:W.codeIn K cdv qual=true) (k:W.keepIn K (.ref f)=true):Fun K x qual st f (W.fnOf x qual (iJ st) (cL st) (ag st) .none kV doc pm an cdv ct):=⟨⟨oc,od,kV,doc,pm,an,cdv,ct,osl,rfl,l,c⟩,k⟩
end
section
variable{X:Cx}
theorem pv (i:Nat){x:Str}{pos:Pos}(hN:X.N[i]?=some x:=by rfl)(hv:yP X.env.scope x:=by first|exact Or.inl rfl|exact Or.inr (Or.inl rfl)|exact Or.inr (Or.inr rfl))(hd:(x==("__debug__" :Str))=false:=by decide)
  (hcd:(x==("__classdict__" :Str))=false:=by decide):PE X (.Name x pos) (II i):=iQ hN hv hd hcd
end
noncomputable def Same (H H':Hp):Prop:=∀b o,H b=some o→H' b=some o
theorem Same.refl (H:Hp):Same H H:=fun _ _ h=>h
theorem Same.trans {H H1 H2:Hp}(a:Same H H1)(b:Same H1 H2):Same H H2:=fun c o h=>b c o (a c o h)
theorem Same.free {H H':Hp}(e:Same H H'){l:Addr}(h:H' l=Option.none):H l=Option.none:=by
 cases q:H l with
 |none=>rfl
 |some o=>
  rw[e l o q]at h;cases h
theorem Same.seq {K:W.Frag}{H H':Hp}{a:Addr}{xs:List V}(e:Same H H')(h:gC K H a xs):gC K H' a xs:=by
 rcases h with (h|⟨o,h⟩)|h
 ·exact .inl (.inl (e _ _ h))
 ·exact .inl (.inr ⟨o,e _ _ h⟩)
 ·exact .inr h
section
variable(P:Program)(w:World)
end
section
variable{P:Program}{w:World}{H H':Hp}{h h':Heap}{a:Addr}{o:HO}
end
section
variable{P:Program}{w:World}{H:Hp}{h h':Heap}{x e:Addr}{o':HO}
end
section
variable{fs fs' ex ex':List Addr}{H H1 H2:Hp}{h h1 h2 h':Heap}{a x e:Addr}{o:HO}
end
section
variable{X:Cx}{pins:List (Addr×Obj)}{σ:List (Option V)}{H H':Hp}{s:Shared}{h':Heap}
end
section
variable{X:Cx}
variable{a b:Expr}{ta tb:TE}{pos:Pos}
variable{tA tB':TT}{rest:List Expr}
end
section
variable{X:Cx}{pins:List (Addr×Obj)}{σ:St}{H:Hp}{s:Shared}{a:Addr}{xs ys:List V}
end
section
variable{X:Cx}{pins:List (Addr×Obj)}{σ:St}{H:Hp}{s:Shared}{E:Value→Shared→Prop}
end
section
variable{X:Cx}{st:Stmt}{rest:List Stmt}{t u:TS}{e:Expr}{te:TE}{pos:Pos}
end
section
variable{X:Cx}{pos:Pos}
end
section
variable{X:Cx}{tg:Expr}
end
section
variable{X:Cx}{a b c:Expr}{ta tb tc:TE}{pos:Pos}
end
section
variable{prog:Program}{w:World}{A:Around}{E:Value→Shared→Prop}{s:Shared}{K:W.Frag}{x dx C f:Addr}{mA:Str→Option Value}{name:Str}{v:Value}
end
section
variable{P:Program}{w:World}{H H':Hp}{h h':Heap}{a C dx:Addr}{fs fs':List (Str×V)}
end
section
variable{X:Cx}{pins:List (Addr×Obj)}{σ:St}{H:Hp}{s:Shared}{a C dx:Addr}{fs:List (Str×V)}{f:Str}{v:V}{A:Around}{E:Value→Shared→Prop}
end
section
variable{X:Cx}{o e value:Expr}{f:Str}{pos pos' tpos:Pos}{ta tv:TE}
end
section
variable{X:Cx}{pins:List (Addr×Obj)}{σ:St}{H:Hp}{s:Shared}{A:Around}{E:Value→Shared→Prop}{Q:Value→Shared→Prop}{c:Value}{b:Bool}
end
section
variable{X:Cx}{e:Expr}{es:List Expr}{te:TE}{t:TA}{pos:Pos}
end
section
variable{X:Cx}{pins:List (Addr×Obj)}{σ:St}{H:Hp}{s s':Shared}
end
section
variable{X:Cx}{CX:sH}{k:Nat}{f C:Addr}{fd:FuncData}{ps:List Str}{sp:Sp}{dvs:List V}{ds:List Value}{E:XK}{x m:Str}{p pos apos:Pos}{e o:Expr}{es:List Expr}{ta:TE}{t:TA}
end
section
variable{X:Cx}{CX:sH}{k:Nat}{f C:Addr}{fd:FuncData}{ps ks:List Str}{sp:Sp}{E:XK}{x m:Str}{p pos apos kpos:Pos}{e o:Expr}{es:List Expr}{kws:List Keyword}{te ta:TE}{t tk:TA}{nm:Option Str}
variable{g:List Value→List Value→List Value}{gV:List V→List V→List V}
end
section
variable{X:Cx}{x:Str}{p pos:Pos}{e:Expr}{es:List Expr}{t:TA}{id T:String}{r:List V→Hp→VK→Prop}
end
section
variable{κ:Type}[DecidableEq κ]
noncomputable def i9 (kvs:List (κ×V))(k:κ):Option V:=(kvs.find? fun kv=>decide (kv.1=k)).map (·.2)
noncomputable def fV (kvs:List (κ×V))(k:κ)(v:V):List (κ×V):=
 if (kvs.any fun kv=>decide (kv.1=k))=true then kvs.map (fun kv=>if kv.1=k then (kv.1,v) else kv) else kvs ++ [(k,v)]
theorem lP {p:κ×V}{r:List (κ×V)}{k:κ}(e:p.1=k):i9 (p::r) k=some p.2:=by simp[i9,find?_cons,e]
theorem jK {p:κ×V}{r:List (κ×V)}{k:κ}(e:¬p.1=k):i9 (p::r) k=i9 r k:=by simp[i9,find?_cons,e]
theorem lO (k:κ):∀kvs:List (κ×V),(kvs.any fun kv=>decide (kv.1=k))=(i9 kvs k).isSome
 | []=>rfl
 |p::r=>by
  rw[any_cons];by_cases e:p.1=k
  ·simp only[lP e,decide_eq_true e,Bool.true_or,Option.isSome_some]
  ·rw[jK e,decide_eq_false e,Bool.false_or];exact lO k r
theorem mK (kvs:List (κ×V))(k:κ)(v:V):(fV kvs k v).length≤kvs.length+1:=by
 unfold fV;split
 ·rw[length_map];omega
 ·rw[length_append,length_cons,length_nil];omega
theorem AG {kvs:List (κ×V)}{k:κ}(v:V)(h:i9 kvs k=none):fV kvs k v=kvs ++ [(k,v)]:=by
 unfold fV;rw[lO,h];exact if_neg (by decide)
theorem RelO.isSome_eq {o:Option V}{u:Option Value}(r:RelO o u):o.isSome=u.isSome:=by
 cases o with
 |none=>cases u with
  |none=>rfl
  |some _=>exact(show False from r).elim
 |some _=>cases u with
  |none=>exact(show False from r).elim
  |some _=>rfl
theorem KV.val {kvs:List (κ×V)}{vs:List (κ×Value)}(r:KV kvs vs)(k:κ):RelO (i9 kvs k) (valueAt vs k):=by
 unfold KV at r
 induction r with
 |nil=>exact True.intro
 | @cons p q ps qs h t ih=>
  obtain⟨h1,h2⟩:=h;by_cases e:p.1=k
  ·have e':q.1=k:=h1.symm.trans e;have b:valueAt (q::qs) k=some q.2:=by simp[valueAt,find?_cons,e']
   rw[lP e,b];exact h2
  ·have e':¬q.1=k:=fun z=>e (h1.trans z);have b:valueAt (q::qs) k=valueAt qs k:=by simp[valueAt,find?_cons,e']
   rw[jK e,b];exact ih
theorem KV.any {kvs:List (κ×V)}{vs:List (κ×Value)}(r:KV kvs vs)(k:κ):(kvs.any fun kv=>decide (kv.1=k))=vs.any fun kv=>decide (kv.1=k):=by
 unfold KV at r
 induction r with
 |nil=>rfl
 |cons h t ih=>rw[any_cons,any_cons,ih,h.1]
theorem KV.repl {kvs:List (κ×V)}{vs:List (κ×Value)}(r:KV kvs vs)(k:κ){y:V}{u:Value}(ry:RelV y u) :
  KV (kvs.map fun kv=>if kv.1=k then (kv.1,y) else kv) (vs.map fun kv=>if kv.1=k then (kv.1,u) else kv):=by
 unfold KV at r ⊢
 induction r with
 |nil=>exact .nil
 | @cons p q ps qs h t ih=>
  rw[map_cons,map_cons];refine .cons ?_ ih;obtain⟨h1,h2⟩:=h;by_cases e:p.1=k
  ·rw[if_pos e,if_pos (h1.symm.trans e)];exact⟨h1,ry⟩
  ·rw[if_neg e,if_neg (fun z=>e (h1.trans z))];exact⟨h1,h2⟩
theorem KV.put {kvs:List (κ×V)}{vs:List (κ×Value)}(r:KV kvs vs)(k:κ){y:V}{u:Value}(ry:RelV y u):KV (fV kvs k y) (stored vs k u):=by
 unfold fV stored;rw[r.any k];by_cases e:(vs.any fun kv=>decide (kv.1=k))=true
 ·rw[if_pos e,if_pos e];exact r.repl k ry
 ·rw[if_neg e,if_neg e];exact Paired.snoc r ⟨rfl,ry⟩
theorem KV.length {kvs:List (κ×V)}{vs:List (κ×Value)}(r:KV kvs vs):kvs.length=vs.length:=Paired.length r
end
theorem zM {P:Program}{w:World}{k:bF}{u:Value}(r:RelV (kV k) u):(bY P w).is k u=true:=by
 cases k with
 |inl i=>obtain⟨t,e⟩:=(show ∃t,u=Value.int i t from r);subst e;exact tW P w i t
 |inr x=>obtain⟨t,e⟩:=(show ∃t,u=Value.str x t from r);subst e;exact tX P w x t
theorem xX {P:Program}{w:World}:∀{ks:List bF} {us:List Value},Vals (ks.map kV) us→ItemsAre (bY P w) ks us:=by
 intro l_
 induction l_ with
 |nil=>
  rintro _ r;exact by rw[map_nil]at r;cases r;exact .nil
 |cons k ks ihh=>
  rintro _ r;rw[map_cons]at r;cases r with
  |cons h t=>exact .cons (zM h) (ihh t)
noncomputable abbrev KT (H:Hp):List (List bF×V)→List (List bF×Addr×Value)→Prop:=Paired fun p q=>p.1=q.1∧H q.2.1=some (.tup (p.1.map kV))∧RelV p.2 q.2.2
theorem KT.val {H:Hp}{kvs:List (List bF×V)}{xs:List (List bF×Addr×Value)}(r:KT H kvs xs)(k:List bF):RelO (i9 kvs k) ((atKey xs k).map (·.2)):=by
 induction r with
 |nil=>exact True.intro
 | @cons p q ps qs h t ih=>
  obtain⟨h1,_,h2⟩:=h;by_cases e:p.1=k
  ·have e':q.1=k:=h1.symm.trans e;have b:atKey (q::qs) k=some q.2:=by simp[atKey,find?_cons,e']
   rw[lP e,b];exact h2
  ·have e':¬q.1=k:=fun z=>e (h1.trans z);have b:atKey (q::qs) k=atKey qs k:=by simp[atKey,find?_cons,e']
   rw[jK e,b];exact ih
theorem KT.repl {H:Hp}{kvs:List (List bF×V)}{xs:List (List bF×Addr×Value)}(r:KT H kvs xs)(k:List bF){y:V}{u:Value}(ry:RelV y u) :
  KT H (kvs.map fun kv=>if kv.1=k then (kv.1,y) else kv) (xs.map (putAt k u)):=by
 induction r with
 |nil=>exact .nil
 | @cons p q ps qs h t ih=>
  rw[map_cons,map_cons];refine .cons ?_ ih;obtain⟨h1,h2,h3⟩:=h;unfold putAt;by_cases e:p.1=k
  ·rw[if_pos e,if_pos (h1.symm.trans e)];exact⟨h1,h2,ry⟩
  ·rw[if_neg e,if_neg (fun z=>e (h1.trans z))];exact⟨h1,h2,h3⟩
theorem KT.put {H:Hp}{kvs:List (List bF×V)}{xs:List (List bF×Addr×Value)}(r:KT H kvs xs)(k:List bF){b:Addr}{y:V}{u:Value}(hb:H b=some (.tup (k.map kV)))(ry:RelV y u) :
  KT H (fV kvs k y) (storedH xs k b u):=by
 have e:(kvs.any fun kv=>decide (kv.1=k))=(atKey xs k).isSome:=by
  rw[lO,(r.val k).isSome_eq,Option.isSome_map]
 unfold fV storedH;rw[e];by_cases q:(atKey xs k).isSome=true
 ·rw[if_pos q,if_pos q];exact r.repl k ry
 ·rw[if_neg q,if_neg q];exact Paired.snoc r ⟨rfl,hb,ry⟩
theorem KT.keeps {H H':Hp}{kvs:List (List bF×V)}{xs:List (List bF×Addr×Value)}(r:KT H kvs xs)(ht:∀b ys,H b=some (.tup ys)→H' b=some (.tup ys)):KT H' kvs xs:=
 Paired.mapP r fun _ _ z=>⟨z.1,ht _ _ z.2.1,z.2.2⟩
section
variable{P:Program}{w:World}{H:Hp}{h:Heap}{a:Addr}
theorem AL {u:HO}(ok:HOk P w H h)(e:Rd H a u):ObjOk P w H h a u:=e.ok ok
theorem zb {kvs:List (bF×V)}(ok:HOk P w H h)(e:Rd H a (.dK kvs)):kvs.length≤sizeLine∧(a==sysModules)=false∧∃vs,KV kvs vs∧h.DictOf (bY P w) a vs:=
 show ObjOk P w H h a (.dK kvs) from AL ok e
theorem Hi {kvs:List (bF×V)}(ok:HOk P w H h)(e:H a=some (.dK kvs)):kvs.length≤sizeLine∧(a==sysModules)=false∧∃vs,KV kvs vs∧h.DictOf (bY P w) a vs:=zb ok (.inl e)
theorem ve {ks:List bF}(ok:HOk P w H h)(e:H a=some (.tup (ks.map kV))):(tupleKind (bY P w)).is h ks a:=by
 obtain⟨_,its,r,o,h1,h2,n,h3⟩:=(show ObjOk P w H h a (.tup (ks.map kV)) from ok a _ e);exact(jb o its.toArray n h1 h2 h3 (by simpa using xX r))
theorem zf {kvs:List (List bF×V)}(ok:HOk P w H h)(e:Rd H a (.dT kvs)):kvs.length≤sizeLine∧(a==sysModules)=false∧
  ∃xs,KT H kvs xs∧h.DictOfH (tupleKind (bY P w)) a xs:=by
 refine GS ((show ObjOk P w H h a (.dT kvs) from AL ok e)) fun z y xs r o es ep h1 h2 h3 h4 h5=>?_;refine⟨z,y,xs,r,o,es,ep,h1,h2,h3,h4,fun x hx=>?_,h5⟩;have all:∀{l:List (List bF×V)} {m:List (List bF×Addr×Value)},KT H l m→∀x∈m,(tupleKind (bY P w)).is h x.1 x.2.1:=by
  intro l m q
  induction q with
  |nil=>intro x hx;exact nomatch hx
  | @cons p q ps qs hq t ih=>
   intro x hx
   rcases mem_cons.mp hx with e|hx
   ·subst e;exact ve ok (by rw[←hq.1];exact hq.2.1)
   ·exact ih x hx
 exact all r x hx
theorem Hk {kvs:List (List bF×V)}(ok:HOk P w H h)(e:H a=some (.dT kvs)):kvs.length≤sizeLine∧(a==sysModules)=false∧
  ∃xs,KT H kvs xs∧h.DictOfH (tupleKind (bY P w)) a xs:=zf ok (.inl e)
end
noncomputable def Ev (H:Hp)(a:Addr)(y:V)(r:Option V):Prop:=
 (∃kvs k,Rd H a (.dK kvs)∧y=kV k∧r=i9 kvs k)∨∃kvs k b,Rd H a (.dT kvs)∧y= .ref b∧H b=some (.tup (k.map kV))∧r=i9 kvs k
noncomputable def G_ (H:Hp)(a:Addr)(y v:V)(H':Hp):Prop:=
 (∃kvs k,H a=some (.dK kvs)∧y=kV k∧kvs.length<sizeLine∧H'=bo H a (.dK (fV kvs k v)))∨
 ∃kvs k b,H a=some (.dT kvs)∧y= .ref b∧H b=some (.tup (k.map kV))∧kvs.length<sizeLine∧H'=bo H a (.dT (fV kvs k v))
section
variable{X:Cx}{pins:List (Addr×Obj)}{σ:St}{H:Hp}{s:Shared}{a:Addr}{y v:V}{u r:Value}{o:Option V}{A:Around}{E:Value→Shared→Prop}
theorem Inv.big (I:Inv X pins σ H s):sysModules<s.heap.objs.size:=by
 have h:mainGlobals<s.heap.objs.size:=(I.mod.glob.keeps I.bk).lt;exact Nat.lt_trans (by decide) h
theorem xw {Q:Value→Shared→Prop}(hu:A.units+1<cLine)(I:Inv X pins σ H s)(g:Ev H a y (some v))(ry:RelV y u)(h:∀w' s',Inv X pins σ H s'→RelV v w'→Q w' s') :
  wpAny (model X.prog X.w) A (getItem (.ref a) u) Q E s:=by
 rcases g with ⟨kvs,k,e,ey,l⟩|⟨kvs,k,b,e,ey,eb,l⟩
 ·refine cps fun PP kP=>?_;subst ey;refine yM (zb I.hok e) fun z hd vs rel dd=>?_;obtain⟨w',hw,rw'⟩:=RelO.some_of (v:=v) (o:=valueAt vs k) (by rw[l];exact rel.val k);refine kP ?_;clear kP PP;exact wpAny_getItem_of (zM ry) dd.mapOf hw (h w' _ (I.tok _) rw')
 ·subst ey;cases (show u=Value.ref b from ry);refine cps fun PP kP=>?_;refine yM (zf I.hok e) fun z hd xs rel dd=>?_;obtain⟨w',hw,rw'⟩:=RelO.some_of (v:=v) (o:=(atKey xs k).map (·.2)) (by rw[l];exact rel.val k);obtain⟨p,hp,hp2⟩:=Option.map_eq_some_iff.mp hw;refine kP ?_;clear kP PP;refine wpAny_getItem_heap (tupleKind_room_in1 hu) (ve I.hok eb) dd hp ?_;rw[hp2];exact h w' _ (I.tok _) rw'
theorem we {h':Heap}{t':Nat}{ob:HO}(I:Inv X pins σ H s)(mu:Hb (H a))(hs:Heap.SameBut a s.heap h')(he:∃q,h'.get? a=some q)(new:ObjOk X.prog X.w (bo H a ob) h' a ob) :
  Inv X pins σ (bo H a ob) {s with heap:=h',toks:=t'}:=
 I.write (x:=a) (e:=a) mu (.inl rfl) (fun b q hb z=>(hs.2 b hb).trans z) he new
theorem EK {P:Program}{w:World}{H':Hp}{h':Heap}{kvs:List (bF×V)}{vs:List (bF×Value)}(z:kvs.length≤sizeLine)(hd:(a==sysModules)=false)(rel:KV kvs vs)(dd:h'.DictOf (bY P w) a vs) :
  ObjOk P w H' h' a (.dK kvs):=⟨z,hd,vs,rel,dd⟩
theorem xy {H':Hp}{Q:Unit→Shared→Prop}(hu:A.units+1<cLine)(I:Inv X pins σ H s)(g:G_ H a y v H')(ry:RelV y u)(rv:RelV v r)(h:∀s',Inv X pins σ H' s'→Q () s') :
  wpAny (model X.prog X.w) A (setItem (.ref a) u r) Q E s:=by
 rcases g with ⟨S,k,e,ey,l,eH⟩|⟨S,k,b,e,ey,eb,l,eH⟩
 ·subst ey eH;refine yM (Hi I.hok e) fun z hd vs R dd=>?_;have hz:vs.length≤sizeLine:=by rw[←R.length];exact z
  have hl:(fV S k v).length≤sizeLine:=by have:=mK S k v;omega
  refine wpAny_setItem_pairs (hsz:=hz) (zM ry) dd fun h' T hs=>h _ ?_;have he:∃q,h'.get? a=some q:=let ⟨q,_,_,hq,_⟩:=T;⟨q,hq⟩
  exact we I (by rw[e];exact True.intro) hs he (EK hl hd (R.put k rv) T)
 ·subst ey eH;cases (show u=Value.ref b from ry);refine yM (Hk I.hok e) fun z hd xs R dd=>?_;have hz:xs.length≤sizeLine:=by rw[←Paired.length R];exact z
  have hl:(fV S k v).length≤sizeLine:=by have:=mK S k v;omega
  refine wpAny_setItem_heap (hsz:=hz) (tupleKind_room_in1 hu) (ve I.hok eb) dd fun h' T hs=>h _ ?_;obtain⟨q,es,ep,hq,h2,h3,h4,_,h5⟩:=T;refine we I (by rw[e];exact True.intro) hs ⟨q,hq⟩ (HI hl hd _ ((R.put k eb rv).keeps fun c ys ec=>?_) q es ep hq h2 h3 h4 h5);rw[ak (Ii ec e (fun z=>nomatch z))]
  exact ec
end
section
variable{X:Cx}{pins:List (Addr×Obj)}{σ:St}{H:Hp}{s:Shared}{a:Addr}{kvs:List (bF×V)}{k:bF}{u:Value}{A:Around}{E:Value→Shared→Prop}
end
noncomputable def Bt (i:Expr):Prop:=∀ov iv,subscripted i false ov iv=operate [ov,iv] (getItem ov iv)
theorem DI {prog:Program}{w:World}{A:Around}{E:Value→Shared→Prop}{s:Shared}{env:Env}{value slice:Expr}{pos:Pos}{T id:String}{Q:Value→Shared→Prop}
  (hl:typeLookup (.type T) "__getitem__" =pure (some (.builtin id))) (hs:Bt slice)
  (h:wpAny (model prog w) A (eval value env) (fun o s₁=>wpAny (model prog w) A (eval slice env) (fun i s₂=>s₂.TypeIs o T∧wpAny (model prog w) A (getItem o i) Q E s₂) E s₁) E s) :
  wpAny (model prog w) A (eval (.Subscript value slice pos) env) Q E s:=by
 refine Subscript_ (wpAny_mono h (fun o s₁ h₁=>wpAny_mono h₁ (fun i s₂ U=>?_) fun _ _ x=>x) fun _ _ x=>x);obtain⟨hT,U⟩:=U;unfold subscriptTail;refine wpAny_bind ?_;rw[getitemInPython_of_ne hT.not_modules];refine wpAny_bind (wpAny_specialOf hT hl ?_);have fin:wpAny (model prog w) A (subscripted slice false o i) (fun r s₃=>wpAny (model prog w) A (letTemporaryGo value o r >>= fun _=>pure r) Q E s₃) E s₂:=by
  rw[hs o i];exact wpAny_operating (wpAny_mono U (fun r s₃ h₃=>wpAny_bind (wpAny_letTemporaryGo (wpAny_pure h₃))) fun _ _ x=>x)
 first
  |exact wpAny_pure (wpAny_bind fin)
  |exact wpAny_bind (wpAny_pure (wpAny_bind fin))
  |exact wpAny_bind fin
theorem sX {X:Cx}{pins:List (Addr×Obj)}{σ:St}{H:Hp}{s:Shared}{a:Addr}{y:V}{o:Option V}(I:Inv X pins σ H s)(g:Ev H a y o):s.TypeIs (.ref a) "dict" :=by
 rcases g with ⟨kvs,k,e,_,_⟩|⟨kvs,k,b,e,_,_,_⟩
 ·refine yM (zb I.hok e) fun _ _ vs _ dd=>?_;exact dd.typeIs
 ·refine yM (zf I.hok e) fun _ _ xs _ dd=>?_;exact dd.typeIs
noncomputable def Er (td ty:TE):TE:=fun σ H Q=>td σ H fun x H1=>ty σ H1 fun y H2=>∃a v,x= .ref a∧Ev H2 a y (some v)∧Q v H2
noncomputable def ID (td ty tv:TE):TS:=fun D σ H=>tv σ H fun v H1=>td σ H1 fun x H2=>ty σ H2 fun y H3=>∃a H4,x= .ref a∧G_ H3 a y v H4∧D.nx σ H4
section
variable{X:Cx}{o i e value:Expr}{pos pos' tpos:Pos}{td ty tv:TE}
theorem wI (hu:X.A.units+1<cLine)(ho:PE X o td)(hi:PE X i ty)(hs:Bt i):PE X (.Subscript o i pos) (Er td ty):=by
 intro pins s σ H Q I h;refine DI PySem.F.slot_dict_getitem.lookup hs (aO (ho pins s σ H _ I h) fun u s1 ⟨x,H1,I1,rx,q1⟩=>aO (hi pins s1 σ H1 _ I1 q1) fun iv s2 hZ88=>?_);obtain⟨y,H2,I2,ry,a,v,ex,g,q2⟩:=hZ88;subst ex;obtain rfl:u=Value.ref a:=rx;exact⟨sX I2 g,xw hu I2 g ry fun w' s3 I3 rw'=>⟨v,H2,I3,rw',q2⟩⟩
theorem Dq (hu:X.A.units+1<cLine)(ho:PE X o td)(hi:PE X i ty)(hv:PE X value tv)(hs:swapsWith value (some (.Subscript o i pos')) pos.line X.env=pure false) :
  PS X (.Assign [.Subscript o i pos'] value pos) (ID td ty tv):=by
 intro p s σ H D I h;refine wpAny_Assign_Subscript (aO (hv p s σ H _ I h) fun r s1 ⟨v,H1,I1,rv,q1⟩=>aO (ho p s1 σ H1 _ I1 q1) fun u s2 ⟨x,H2,I2,rx,q2⟩=>aO (hi p s2 σ H2 _ I2 q2) fun iv s3 hZ91=>?_) hs;obtain⟨y,H3,I3,ry,a,H4,ex,g,q3⟩:=hZ91;subst ex;obtain rfl:u=Value.ref a:=rx;exact xy hu I3 g ry rv fun s4 I4=>⟨σ,H4,I4,q3⟩
end
theorem ze {P:Program}{w:World}{H:Hp}(h:Heap)(hb:sysModules<h.objs.size):ObjOk P w H (h.push {cls:=.type "dict",data:=.dict #[]}) h.objs.size (.dT []):=
 (HI (zero_le _) (beq_eq_false_iff_ne.mpr (Ne.symm (ne_of_lt hb))) ([]) .nil _ (#[]) 0 (Heap.get?_push_size _ rfl) ⟨rfl,rfl,rfl⟩ rfl rfl nodup_nil)
noncomputable def GJ:TE:=fun _ H Q=>∀p,H p=none→Q (.ref p) (bo H p (.dT []))
section
variable{X:Cx}{pos:Pos}
theorem Ar:PE X (.Dict [] [] pos) GJ:=fun pins s σ H Q I h=>
 wpAny_Dict_empty ⟨.ref s.heap.objs.size,_,I.laid (a:=s.heap.objs.size) (o:=.dT []) (t':=s.toks) (fun _ _ q=>Heap.get?_push_of_some _ q) (le_refl _) (ze s.heap I.big),rfl,h _ (I.hok.fresh (le_refl _))⟩
end
section
variable{X:Cx}{pins:List (Addr×Obj)}{σ:St}{H:Hp}{s:Shared}{a:Addr}{y d:V}{u r:Value}{o:Option V}{A:Around}{E:Value→Shared→Prop}
end
section
variable{X:Cx}{o e f:Expr}{apos cpos:Pos}{td ty tx:TE}
end
section
variable{X:Cx}{pins:List (Addr×Obj)}{σ:St}{H:Hp}{s:Shared}{a:Addr}{kvs:List (bF×V)}{A:Around}{E:Value→Shared→Prop}
end
section
variable{X:Cx}{pins:List (Addr×Obj)}{σ:St}{H:Hp}{s:Shared}{a:Addr}{y:V}{u:Value}{A:Around}{E:Value→Shared→Prop}
end
end L2
namespace Att
open PySem PySem.W PySem.Calls PyProof.Rows
section
variable{prog:Program}{w:World}{A:Around}{E:Value→Shared→Prop}{s:Shared}{K:Frag}
end
end Att
namespace L2
open PySem PySem.Spec PyProof.Rows
section
variable{P:Program}{w:World}{K:W.Frag}{mg:Str→Option Value}{base:Heap}
end
section
variable{X:Cx}
end
section
variable{κ:Type}[DecidableEq κ]
end
theorem HOk.onto {P:Program}{w:World}{H:Hp}{h1 h2:Heap}(x:HOk P w H h1)(k:∀b o u,H b=some u→h1.get? b=some o→h2.get? b=some o):HOk P w H h2:=fun a o e=>
 (x a o e).stay (fun b u hb q=>by
  rcases hb with rfl|hb
  ·exact k b u _ e q
  ·exact k b u _ hb q) (fun _ q=>q) fun _ _ q=>q
theorem ObjOk.at {P:Program}{w:World}{H:Hp}{h:Heap}{a:Addr}{o:HO}(x:ObjOk P w H h a o):∃ob,h.get? a=some ob:=by
 cases o with
 |lst xs=>refine yJ (x) fun _ _ _ _ e=>?_;exact⟨_,e⟩
 |tup xs=>refine uC (x) fun _ _ _ p=>?_;obtain⟨o,e,_⟩:=p;exact⟨o,e⟩
 |dK kvs=>refine vW (x) fun _ _ _ _ o _ _ e _=>?_;exact⟨o,e⟩
 |dT kvs=>refine vW (x) fun _ _ _ _ o _ _ e _=>?_;exact⟨o,e⟩
 |set S n=>refine GQ (x) fun o _ _ _ e _=>?_;exact⟨o,e⟩
 |ins C dx fs=>refine sC (x) fun _ _ _ e _=>?_;exact⟨_,e⟩
 |own y=>exact x
 |xd fs=>obtain⟨_,⟨o,_,_,e,_⟩,_⟩:=x;exact⟨o,e⟩
 |rng lo hi=>refine yK (x) fun _ _ _ e=>?_;exact⟨_,e⟩
 |frz ob u=>obtain⟨e,_⟩:=x;exact⟨ob,e⟩
 |tbl ps=>exact⟨_,(show h.get? a=some _ from x)⟩
 |met f y=>exact⟨_,(show h.get? a=some _ from x)⟩
 |ext φ=>obtain⟨_,e,_⟩:=x;exact e
inductive CXF (P:Program)(w:World)(outer:List Env)(H:Hp)(s:Shared)(E:XK)(ev:Value)(s':Shared):Prop
 |mk (e:Addr) (cls a0:Value) (B:Heap) (H':Hp) (h1:ev= .ref e) (h2:s'.os=s.os) (h3:AllBare s'.gens)
  (h4:Un (kz outer) [] H H' s.heap s'.heap) (h5:HOk P w H' s'.heap) (h6:Heap.FlyingW B outer e cls a0 s'.heap)
  (h7:∀b o,s'.heap.get? b=some o→b∉kz outer→((∃u,H' b=some u)∨∃o',s.heap.get? b=some o')→B.get? b=some o)
  (h8:H' e=none) (h9:s.heap.get? e=none) (q:E cls none H')
section
variable{X:Cx}{pins:List (Addr×Obj)}{σ:St}{H:Hp}{s:Shared}
theorem ji {P:Program}{w:World}{K:W.Frag}{mg:Str→Option Value}{base:Heap}{N:List Str}{qual:Str}{scope:Scope}{f:Addr}{cd:Value}{A:Around}{outer:List Env}{s₀:Shared}{H₀:Hp}{E E':XK}
  (he:∀c a H,E' c a H→E c a H) :
  cQ (CXF P w) (sW (CXF P w) P w K mg base N qual scope f cd A outer s₀ H₀ E) E':=by
 intro pins σ H s ev s' I h;obtain⟨e,cls,a0,B,H',rfl,os,bare,un,hok,fl,cov,hn,hs,q⟩:=h;have k:∀{b:Addr} {o:Obj},s₀.heap.get? b=some o→b≠s₀.heap.objs.size:=fun e=>ne_of_lt (Heap.lt_size e);have V:kz (envOfC qual scope s₀.heap.objs.size f cd::outer)=s₀.heap.objs.size::kz outer:=rfl;have hfr:∀b∈kz (envOfC qual scope s₀.heap.objs.size f cd::outer),∀o,s'.heap.get? b=some o→∀vs,o.data≠ .fields vs:=fun b x o eo=>by
  refine uC (fl.2.2.1.mem x) fun _ o' e' h=>?_;rw[eo]at e';cases e';exact h
 have Ib:=I.base;have d:∀b:Addr,b∉(sW (CXF P w) P w K mg base N qual scope f cd A outer s₀ H₀ E).ex:=fun b z=>absurd (show b∈([]:List Addr) from z) (by simp);have nL:H' s₀.heap.objs.size=none:=by
  obtain⟨m,⟨o,_,_,ho,_⟩,_⟩:=I.loc;exact un.free _ o ho I.free (by simp)
 show wpAny _ _ (leaving _ (.ref e)) _ _ s';refine wpAny_leaves_onW (base:=B) I.ok.frames rfl fl fun h2 fl2 up=>?_;have X:∀b o,s'.heap.get? b=some o→b∉kz outer→b≠s₀.heap.objs.size→((∃u,H' b=some u)∨∃o',s.heap.get? b=some o')→h2.get? b=some o:=fun b o i nb nl hh=>
  fl2.1 b o (cov b o i (by show b∉s₀.heap.objs.size::kz outer;simp[nl,nb]) hh)
 have j:∀b o,s'.heap.get? b=some o→b∈kz outer→∃sl,h2.get? b=some {o with slots:=sl}:=fun b o i x=>
  up b o i (hfr b (by rw[V];exact cR x) o i)
 have Z:∀b o,s₀.heap.get? b=some o→∃g,s.heap.get? b=some g:=fun b o Y=>Ib.there b o Y (d b);have hUn:Un (kz outer) [] H₀ H' s₀.heap h2:={
  keep:=fun b o Y n x _=>by
   have i:=Ib.keep b o Y n x (d b);have n1:=Ib.free b o Y n (d b);have hb2:b∉kz (envOfC qual scope s₀.heap.objs.size f cd::outer):=by rw[V];simp[k Y,x]
   exact X b o (un.keep b o i n1 hb2 (by simp)) x (k Y) (.inr ⟨o,i⟩)
  slot:=fun b o Y n x _=>by
   obtain⟨s1,i⟩:=Ib.slot b o Y n x (d b);have n1:=Ib.free b o Y n (d b);obtain⟨s2,p⟩:=un.any i n1 (by simp);obtain⟨s3,e3⟩:=j b _ p x;exact⟨s3,e3⟩
  free:=fun b o Y n _=>by
   obtain⟨g,i⟩:=Z b o Y;exact un.free b g i (Ib.free b o Y n (d b)) (by simp)
  there:=fun b o Y _=>by
   obtain⟨g,i⟩:=Z b o Y;obtain⟨o2,p⟩:=un.there b g i (by simp);by_cases x:b∈kz outer
   ·obtain⟨s3,e3⟩:=j b o2 p x;exact⟨_,e3⟩
   ·exact⟨o2,X b o2 p x (k Y) (.inr ⟨g,i⟩)⟩
  tups:=fun b xs q=>un.tups b xs (Ib.tups b xs q)
  frzs:=fun b o u q=>un.frzs b o u (Ib.frzs b o u q)
  tbls:=fun b ps q=>by
   obtain⟨m1,i⟩:=Ib.tbls b ps q;obtain⟨m2,p⟩:=un.tbls b _ i;exact⟨m1 ++ m2,by rw[p,Array.append_assoc]⟩}
 have frf':∀b u,H' b=some u→b∉kz outer∧b≠s₀.heap.objs.size:=fun b u i=>by
  refine⟨fun x=>?_,fun z=>by rw[z,nL]at i;cases i⟩;have n0:H b=none:=I.stkFree b (by show b∈kz (envOfC qual scope s₀.heap.objs.size f cd::outer);rw[V];exact cR x);refine uC (I.stack.mem (show b∈kz (envOfC qual scope s₀.heap.objs.size f cd::outer) by rw[V];exact cR x)) fun _ o eo _=>?_;rw[un.free b o eo n0 (by simp)]at i;cases i
 have hok2:HOk P w H' h2:=hok.onto fun b o u x eo=>X b o eo (frf' b u x).1 (frf' b u x).2 (.inl ⟨u,x⟩);have cov2:∀b o,h2.get? b=some o→b∉kz outer→((∃u,H' b=some u)∨∃o',s₀.heap.get? b=some o')→B.get? b=some o:=fun b o p x hh=>by
  rcases hh with ⟨u,hu⟩|⟨o0,Y⟩
  ·obtain⟨g,i⟩:=(hok b u hu).at;have z:=X b g i (frf' b u hu).1 (frf' b u hu).2 (.inl ⟨u,hu⟩);rw[p]at z;cases z;exact cov b o i (by show b∉s₀.heap.objs.size::kz outer;simp[x,(frf' b u hu).2]) (.inl ⟨u,hu⟩)
  ·obtain⟨g,i⟩:=Z b o0 Y;obtain⟨o2,e3⟩:=un.there b g i (by simp);have z:=X b o2 e3 x (k Y) (.inr ⟨g,i⟩);rw[p]at z;cases z;exact cov b o e3 (by show b∉s₀.heap.objs.size::kz outer;simp[x,k Y]) (.inr ⟨g,i⟩)
 refine⟨e,cls,a0,B,H',rfl,os.trans I.os,bare,hUn,hok2,fl2,cov2,hn,?_,he _ _ _ q⟩;cases z:s₀.heap.get? e with
 |none=>rfl
 |some o=>
  obtain⟨g,i⟩:=Z e o z;rw[hs]at i;cases i
end
section
variable{X:Cx}
end
section
variable{X:Cx}{pins:List (Addr×Obj)}{σ:St}{H H':Hp}{s:Shared}
noncomputable def Ew (e:Addr)(cls:Value):HO:=.ext fun h=>∃o,h.get? e=some o∧o.cls=cls
end
noncomputable def iI (cells:List (Str×Addr)):List (Str×NameKind)→List (Str×Addr)→List (Str×Addr)
 | [],cs=>cs
 |(n,k)::r,cs=>iI cells r (if k==.free then (match cells.lookup n with|some c=>(n,c)::cs|none=>cs) else cs)
theorem j5 {scope:Scope}{env:Env}(h:∀y∈scope.names,y.2= .free→∃c,env.cells.lookup y.1=some c):closureFor scope env=pure (iI env.cells scope.names []):=by
 unfold closureFor;have go:∀(l:List (Str×NameKind)) (cs:List (Str×Addr)),(∀y∈l,y.2= .free→∃c,env.cells.lookup y.1=some c)→
   (forIn l cs fun x r=>if (x.2==NameKind.free)=true then do let c ←cellOf env x.1;pure (ForInStep.yield ((x.1,c)::r)) else pure (ForInStep.yield r):Sem (List (Str×Addr)))=pure (iI env.cells l cs):=by
  intro l
  induction l with
  |nil=>intro cs _;rfl
  |cons x r ih=>
   intro cs hl;obtain⟨n,k⟩:=x;rw[List.forIn_cons];by_cases hk:k= .free
   ·subst hk;obtain⟨c,hc⟩:=hl (n,.free) mem_cons_self rfl;have hc':env.cells.lookup n=some c:=hc;have e:cellOf env n=pure c:=by unfold cellOf;rw[hc']
    simp only[beq_self_eq_true,if_true,e,pure_bind,iI,hc'];exact ih _ fun y hy=>hl y (cR hy)
   ·have e:(k==NameKind.free)=false:=by simpa using hk
    simp only[e,false_eq_true,if_false,pure_bind,iI];exact ih _ fun y hy=>hl y (cR hy)
 have:=go scope.names [] h;simpa using this
theorem k9 {cells:List (Str×Addr)}:∀{l:List (Str×NameKind)} {cs:List (Str×Addr)} {x:Str} {c:Addr},(iI cells l cs).lookup x=some c→(∀y d,cs.lookup y=some d→cells.lookup y=some d)→cells.lookup x=some c
 | [],cs,x,c,h,hs=>hs x c h
 |(n,k)::r,cs,x,c,h,hs=>by
  unfold iI at h;refine k9 h ?_;intro y d e;split at e
  ·split at e
   ·rename_i c' hc';rw[lookup_cons]at e;split at e
    ·rename_i hy;cases e;have hy':y=n:=by simpa using hy
     rw[hy'];exact hc'
    ·exact hs y d e
   ·exact hs y d e
  ·exact hs y d e
theorem qg {cells:List (Str×Addr)}:∀{l:List (Str×NameKind)} {cs:List (Str×Addr)} {x:Str},(∃c,cs.lookup x=some c)→∃c,(iI cells l cs).lookup x=some c
 | [],cs,x,h=>h
 |(n,k)::r,cs,x,⟨c,h⟩=>by
  unfold iI;refine qg ?_;split
  ·split
   ·rw[lookup_cons];split
    ·exact⟨_,rfl⟩
    ·exact⟨c,h⟩
   ·exact⟨c,h⟩
  ·exact⟨c,h⟩
theorem n_ {cells:List (Str×Addr)}:∀{l:List (Str×NameKind)} {cs:List (Str×Addr)} {x:Str},(x,NameKind.free)∈l→(∃c,cells.lookup x=some c)→∃c,(iI cells l cs).lookup x=some c
 |(n,k)::r,cs,x,hm,⟨c,hc⟩=>by
  rcases mem_cons.mp hm with e|hm
  ·cases e;unfold iI;refine qg ?_;rw[if_pos (by rfl),hc];exact⟨c,by rw[lookup_cons];simp⟩
  ·unfold iI;exact n_ hm ⟨c,hc⟩
theorem eK {env:Env}:∀{names:List (Str×NameKind)} {x:Str} {k:NameKind},(∀y∈names,y.2≠ .cell)→
  (names.map fun (n,k)=>if (k==NameKind.free&&env.scope.kind==.function&&env.kindOf n==some .cell) then (n,NameKind.cell) else (n,k)).lookup x=some k→(k= .cell∨k= .free)→(x,NameKind.free)∈names
 | [],_,_,_,h,_=>by simp at h
 |(n,k0)::r,x,k,hc,h,hk=>by
  have ih:= @eK env r x k (fun y hy=>hc y (cR hy));rw[map_cons,lookup_cons]at h;by_cases c:(k0==NameKind.free&&env.scope.kind==.function&&env.kindOf n==some .cell)=true
  ·have hf:k0= .free:=by
    simp only[and_eq_true,beq_iff_eq]at c;exact c.1.1
   subst hf;rw[if_pos c]at h;dsimp only at h;split at h
   ·rename_i hy;have:x=n:=by simpa using hy
    subst this;exact mem_cons_self
   ·exact cR (ih h hk)
  ·rw[if_neg c]at h;dsimp only at h;split at h
   ·rename_i hy;have:x=n:=by simpa using hy
    subst this;cases h
    rcases hk with rfl|rfl
    ·exact absurd rfl (hc (x,.cell) mem_cons_self)
    ·exact mem_cons_self
   ·exact cR (ih h hk)
theorem lI {env:Env}:∀{names:List (Str×NameKind)} {x:Str},names.lookup x=some .free→
  (names.map fun (n,k)=>if (k==NameKind.free&&env.scope.kind==.function&&env.kindOf n==some .cell) then (n,NameKind.cell) else (n,k)).lookup x=some .cell∨
  (names.map fun (n,k)=>if (k==NameKind.free&&env.scope.kind==.function&&env.kindOf n==some .cell) then (n,NameKind.cell) else (n,k)).lookup x=some .free
 | [],_,h=>by simp at h
 |(n,k0)::r,x,h=>by
  have ih:= @lI env r x;rw[lookup_cons]at h;rw[map_cons,lookup_cons];by_cases c:(k0==NameKind.free&&env.scope.kind==.function&&env.kindOf n==some .cell)=true
  ·rw[if_pos c];dsimp only;split at h
   ·exact .inl rfl
   ·exact ih h
  ·rw[if_neg c];dsimp only;split at h
   ·exact .inr h
   ·exact ih h
noncomputable abbrev Cx.comp (X:Cx)(s:Shared)(H:Hp)(scope:Scope)(C:Addr)(N:List Str)(ex:List Addr):Cx:=
 {X with N:=N,s₀:=s,H₀:=H,env:=compEnvC scope (iI X.env.cells scope.names []) C X.env,outer:=X.stack,stack:=X.stack,ex:=ex,fn:=fun _=>false,pn:=[],xe:=fun _ _=>False}
structure CompSc (X:Cx)(scope:Scope)(N:List Str)(caps:List (Option Nat)):Prop where
 kind:scope.kind= .function
 nocell:∀y∈scope.names,y.2≠ .cell
 names:∀y∈scope.names,y.2= .local→scope.names.lookup y.1=some .local
 free:∀y∈scope.names,y.2= .free→X.env.scope.names.lookup y.1=some .cell∨X.env.scope.names.lookup y.1=some .free
 nd:N.Nodup
 len:caps.length=N.length
 capf:∀(j k:Nat) (x:Str),caps[j]?=some (some k)→N[j]?=some x→scope.names.lookup x=some .free
 cap:∀(j k:Nat) (x:Str),caps[j]?=some (some k)→N[j]?=some x→X.N[k]?=some x∧(X.env.scope.names.lookup x=some .cell∨X.env.scope.names.lookup x=some .free)
noncomputable def fz (caps:List (Option Nat))(σ:St):St:=caps.map fun o=>o.bind fun k=>(σ[k]?).join
theorem qf {caps:List (Option Nat)}{σ:St}{j:Nat}{v:V}(h:(fz caps σ)[j]?=some (some v)):∃k,caps[j]?=some (some k)∧σ[k]?=some (some v):=by
 unfold fz at h;rw[getElem?_map]at h;cases e:caps[j]? with
 |none=>rw[e]at h;cases h
 |some o=>
  rw[e]at h;cases o with
  |none=>simp at h
  |some k=>
   refine⟨k,rfl,?_⟩;simp only[map_some,bind_some]at h;cases e2:σ[k]? with
   |none=>rw[e2]at h;simp at h
   |some o2=>rw[e2]at h;simp at h;rw[h]
section
variable{X:Cx}{pins:List (Addr×Obj)}{σ:St}{H:Hp}{s:Shared}{scope:Scope}{N:List Str}{caps:List (Option Nat)}
theorem Inv.comp {h₁:Heap}{C:Addr}{fp:List Addr}{t':Nat}(I:Inv X pins σ H s)(S:CompSc X scope N caps)(hC:s.heap.objs.size≤C)(hf:∀b∈fp,i5 X pins H b)(hfp:∀b∈fp,b<s.heap.objs.size)
  (old:∀b o,s.heap.get? b=some o→h₁.get? b=some o) (ns:∃m,h₁.Ns C m):Inv (X.comp s H scope C N fp) [] (fz caps σ) H {s with heap:=h₁,toks:=t'}:=by
 have f:∀x c,(iI X.env.cells scope.names []).lookup x=some c→X.env.cells.lookup x=some c:=fun x c e=>k9 e (fun y d z=>by simp at z);have hsub:=I.stkSub;obtain⟨m1,hn1⟩:=ns;have notC:∀{b:Addr},b<s.heap.objs.size→b≠C:=fun hb=>ne_of_lt (lt_of_lt_of_le hb hC);have hasF:∀x,(x,NameKind.free)∈scope.names→∃c,X.env.cells.lookup x=some c:=fun x hx=>I.ok.has x (S.free (x,.free) hx rfl);refine⟨⟨I.ok.mod,S.kind,I.ok.glob,I.ok.blt,hC,fun x y c e1 e2=>I.ok.inj x y c (f x c e1) (f y c e2),fun x hx=>?_,fun x c hx=>Bool.noConfusion hx,I.ok.hd,I.ok.frames,.inl rfl,fun b hb=>⟨notC (hfp b hb),fun x c e=>(hf b hb).2.2.2.2.1 x c (f x c e)⟩,I.bs,le_trans I.ok.bsz I.sz,fun b o e hb=>?_,fun b hb z=>?_,I.stack,I.stkFree⟩,
  rfl,I.bare,Un.kept old,⟨m1,hn1,fun j y v e1 e2 e3=>?_⟩,fun x c e=>?_,I.hok.fresh hC,fun x c e=>I.freeC x c (f x c e),fun p hp=>absurd (show p∈([]:List (Addr×Obj)) from hp) (by simp),I.hok.kept old,by rw[show (fz caps σ).length=caps.length by simp[fz]];exact S.len⟩
 ·have hx':(relabel scope X.env).names.lookup x=some .cell∨(relabel scope X.env).names.lookup x=some .free:=hx;have hm:(x,NameKind.free)∈scope.names:=by
   rcases hx' with e|e
   ·exact eK S.nocell e (.inl rfl)
   ·exact eK S.nocell e (.inr rfl)
  exact n_ hm (hasF x hm)
 ·refine sC (hf b hb) fun f0 f1 f2 f3 _=>?_
  rcases f3 with z|z
  ·exact I.ok.noex b o e z
  ·exact absurd (lt_of_lt_of_le (Heap.lt_size e) (le_trans I.ok.bsz z)) (lt_irrefl _)
 ·refine mE (hf b hb) fun f0 f1 f2 _=>?_
  rcases mem_cons.mp (hsub b z) with e|e
  ·exact f1 e
  ·exact f2 e
 ·refine cps fun PP kP=>?_;obtain⟨k,c1,c2⟩:=qf e2;obtain⟨c3,c4⟩:=S.cap j k y c1 e1;obtain⟨m,hn,hl⟩:=I.loc;obtain⟨u,r,l⟩:=hl k y v c3 c2 (by rcases c4 with z|z;exact .inr (.inl z);exact .inr (.inr z))
  refine kP ?_;clear kP PP;refine⟨u,r,.inr ?_⟩;have hv:(relabel scope X.env).names.lookup y=some .cell∨(relabel scope X.env).names.lookup y=some .free:=lI (S.capf j k y c1 e1);have hm:(y,NameKind.free)∈scope.names:=by
   rcases hv with e|e
   ·exact eK S.nocell e (.inl rfl)
   ·exact eK S.nocell e (.inr rfl)
  obtain⟨c,hc⟩:=n_ (cells:=X.env.cells) (cs:=[]) hm (hasF y hm);refine(oC hv c hc ?_)
  rcases l with ⟨k1,_⟩|⟨_,c',hc',z⟩
  ·exfalso;have k1':X.env.scope.names.lookup y=some .local:=k1
   rcases c4 with z|z <;> (rw[k1']at z;cases z)
  ·rw[f y c hc]at hc';cases hc';obtain⟨o,eo,d⟩:=z;exact⟨o,old _ _ eo,d⟩
 ·refine mV (I.cell x c (f x c e)) fun v o eo d=>?_;exact(l8 v o (old _ _ eo) d)
end
section
variable{prog:Program}{w:World}{A:Around}{E:Value→Shared→Prop}{R:Result→Shared→Prop}{s:Shared}
theorem xr {elt target iter:Expr}{ifs:List Expr}{scope:Scope}{pos:Pos}{it acc:Value}{env:Env}(I:Nat→Shared→Prop)
  (turn:∀n s,I n s→wpAny (model prog w) A (pyNext it) (fun r s₁=>match r with
   |none=>R (.ok .next) s₁
   |some v=>wpAny (model prog w) A (letOwnedTupleGo target it v) (fun _ s₁'=>wpAny (model prog w) A (assign target env v) (fun _ s₂=>
     wpAny (model prog w) A (forIn ifs true fun c r=>if r=true then do let ok ←isTrue c env (eval c env);pure (ForInStep.yield ok) else pure (ForInStep.yield r)) (fun ok s₃=>
      if ok=true then wpAny (model prog w) A (eval elt env) (fun x s₄=>
       wpAny (model prog w) A (call (.builtin "list.append") [acc,x]) (fun _ s₅=>∃m,m<n∧I m s₅) (notedBy (model prog w) A env fun e s'=>R (.error e) s') s₄) (notedBy (model prog w) A env fun e s'=>R (.error e) s') s₃
      else ∃m,m<n∧I m s₃) (notedBy (model prog w) A env fun e s'=>R (.error e) s') s₂) (notedBy (model prog w) A env fun e s'=>R (.error e) s') s₁') (notedBy (model prog w) A env fun e s'=>R (.error e) s') s₁) (notedBy (model prog w) A env fun e s'=>R (.error e) s') s)
  (n:Nat) (h:I n s) :
  codeAny (model prog w) A (.compLoop (.ListComp elt [⟨target,iter,ifs,0⟩] scope pos) 0 it acc env) R s:=by
 refine codeAny_loop rfl I (fun n s hI=>?_) n h;show wpAny _ A ((compTurn (.ListComp elt [⟨target,iter,ifs,0⟩] scope pos) 0 it acc env).onRaise (fun x=>do noteFrame x env;theTreesLotGoes x)) _ _ s
 refine wpAny_noted ?_;rw[compTurn_list];refine wpAny_bind (wpAny_standAt (wpAny_bind (wpAny_mono (turn n s hI) (fun r s₁ h₁=>?_) fun _ _ L=>L)));cases r with
 |none=>exact wpAny_pure h₁
 |some v=>
  refine wpAny_bind (wpAny_mono h₁ (fun _ s₁' h₁'=>?_) fun _ _ L=>L);refine wpAny_bind (wpAny_mono h₁' (fun _ s₂ h₂=>wpAny_bind (wpAny_mono h₂ (fun ok s₃ h₃=>?_) fun _ _ L=>L)) fun _ _ L=>L);cases ok with
  |false=>exact wpAny_pure ⟨rfl,h₃⟩
  |true=>
   exact wpAny_bind (wpAny_bind (wpAny_mono h₃ (fun x s₄ h₄=>wpAny_bind (wpAny_mono h₄ (fun _ s₅ h₅=>wpAny_pure (wpAny_pure ⟨rfl,h₅⟩)) fun _ _ L=>L)) fun _ _ L=>L))
end
noncomputable def GW (X:Cx)(ifs:List Expr)(t:TT):Prop:=
 ∀(pins:List (Addr×Obj)) (s:Shared) (σ:St) (H:Hp) (Q:Bool→Hp→Prop),Inv X pins σ H s→t σ H Q→
  wpAny (model X.prog X.w) X.A (forIn ifs true fun c r=>if r=true then do let ok ←isTrue c X.env (eval c X.env);pure (ForInStep.yield ok) else pure (ForInStep.yield r)) (TP X pins σ Q) X.xe s
theorem Df {X:Cx}:GW X [] (fun _ H Q=>Q true H):=fun _ _ _ H _ I h=>wpAny_tests_nil ⟨H,I,h⟩
theorem Dg {X:Cx}{c:Expr}{t:TT}(h:PT X c t):GW X [c] t:=fun pins s σ H Q I q=>wpAny_tests_one (h pins s σ H Q I q)
noncomputable def Bb (wi:TI)(caps:List (Option Nat))(g:TG)(tc:TT)(te:TE):TE:=fun σ H Q=>wi σ H fun J H1=>∃W:Nat→Nat→List V→Hp→Prop,(∃m,W 0 m [] H1)∧∀i m ys H2,W i m ys H2→
 (J.stop i H2∧ys.length≤sizeLine∧∀p,H2 p=none→Q (.ref p) (bo H2 p (.lst ys)))∨
 (J.go i H2∧∃Nx:List V→Hp→Prop,(∀ys' H',Nx ys' H'→∃m',m'<m∧W (i+1) m' ys' H')∧
  ∀x H',J.yld i H2 x H'→g x (fz caps σ) H' fun σ2 H3=>tc σ2 H3 fun b H4=>if b=true then ys.length≤sizeLine∧te σ2 H4 (fun y H5=>Nx (ys ++ [y]) H5) else Nx ys H4)
section
variable{X:Cx}{pins:List (Addr×Obj)}{σ:St}{H:Hp}{s:Shared}{scope:Scope}{N:List Str}{caps:List (Option Nat)}
noncomputable abbrev ly (us:List Value):Obj:={cls:=.type "list",data:=.seq us.toArray us.length}
theorem yc (ys:List Value)(y:Value):({cls:=.type "list",data:=.seq (ys.toArray.push y) (ys.length+1)}:Obj)=ly (ys ++ [y]):=by
 show ({cls:=.type "list",data:=.seq (ys.toArray.push y) (ys.length+1)}:Obj)={cls:=.type "list",data:=.seq (ys ++ [y]).toArray (ys ++ [y]).length};rw[length_append,length_singleton,List.push_toArray]
noncomputable def kY (caps:List (Option Nat))(g:TG):Prop:=∀x σ0 H Q,g x σ0 H Q→g x σ0 H fun σ2 H2=>Q σ2 H2∧σ2.length=σ0.length∧∀(j k:Nat) (v:V),caps[j]?=some (some k)→σ0[j]?=some (some v)→σ2[j]?=some (some v)
theorem lA {i:Nat}(h:caps[i]?=some none):kY caps (b9 i):=fun x σ0 H Q q=>by
 refine⟨q,by simp,fun j k v hj hv=>?_⟩;have:j≠i:=fun z=>by rw[z,h]at hj;cases hj
 rw[getElem?_set_ne (Ne.symm this)];exact hv
theorem oa {elt tg iter:Expr}{ifs:List Expr}{pos:Pos}{it:Addr}{fp:List Addr}{tn:Nat→Heap→Prop}{J:It}{g:TG}{tc:TT}{te:TE}{RR:Value→Addr→Result→Shared→Prop}{E:Value→Shared→Prop}
  (hc:X.calm=true) (I:Inv X pins σ H s) (S:CompSc X scope N caps) (T:Turn X.prog X.w X.K tg J fp it tn) (st:tn 0 s.heap) (hf:∀b∈fp,i5 X pins H b)
  (hg:∀C ex,PG (X.comp s H scope C N ex) tg g) (ho:kY caps g) (ht:∀C ex,GW (X.comp s H scope C N ex) ifs tc) (he:∀C ex,PE (X.comp s H scope C N ex) elt te)
  (W:Nat→Nat→List V→Hp→Prop) (m0:Nat) (w0:W 0 m0 [] H) {Q:VK}
  (turn:∀i m ys H2,W i m ys H2→(J.stop i H2∧ys.length≤sizeLine∧∀p,H2 p=none→Q (.ref p) (bo H2 p (.lst ys)))∨
   (J.go i H2∧∃Nx:List V→Hp→Prop,(∀ys' H',Nx ys' H'→∃m',m'<m∧W (i+1) m' ys' H')∧
    ∀x H',J.yld i H2 x H'→g x (fz caps σ) H' fun σ2 H3=>tc σ2 H3 fun b H4=>if b=true then ys.length≤sizeLine∧te σ2 H4 (fun y H5=>Nx (ys ++ [y]) H5) else Nx ys H4))
  (hRR:∀(D C:Addr) (s':Shared) (m:Str→Option Value) (H':Hp),s'.heap.Ns C m→Inv X pins σ H' s'→i5 X pins H' C→Q (.ref D) H'→RR (.ref D) C (.ok .next) s') :
  wpAny (model X.prog X.w) X.A (newList []) (fun acc s₃=>wpAny (model X.prog X.w) X.A (newFunctionEnv scope X.env.globals (iI X.env.cells scope.names []) [] X.env.qual none .none (some X.env)) (fun cenv s₄=>
   codeAny (model X.prog X.w) X.A (.compStart (.ListComp elt [⟨tg,iter,ifs,0⟩] scope pos) 0 (.ref it) acc {cenv with scope:=relabel scope X.env}) (RR acc cenv.locals) s₄) E s₃) E s:=by
 refine wpAny_newObj_type (wpAny_newFunctionEnv S.nocell (by intro y hy;simp at hy) (fun G l f=>?_) S.kind);dsimp only at l f ⊢;generalize hH2:s.heap.push {cls:=.type "list",dict:=none,data:=.seq ([]:List Value).toArray}=H2 at l f ⊢;have hC:H2.objs.size=s.heap.objs.size+1:=by rw[←hH2,Heap.size_push]
 have a:s.heap.objs.size≠H2.objs.size:=by rw[hC];exact ne_of_lt (lt_succ_self _)
 have P:s.heap.objs.size≤H2.objs.size:=by rw[hC];exact le_succ _
 have old:∀b o,s.heap.get? b=some o→G.get? b=some o:=fun b o e=>
  f.extBut b o (by rw[hC];exact ne_of_lt (Nat.lt_succ_of_lt (Heap.lt_size e))) (Heap.get?_push_of_some _ (hH2 ▸ Heap.get?_push_of_some _ e))
 have hacc:G.get? s.heap.objs.size=some (ly []):=f.extBut _ _ a (Heap.get?_push_of_some _ (hH2 ▸ Heap.get?_push_size _ rfl));have hfp:∀b∈fp,b<s.heap.objs.size:=fun b B=>by
  obtain⟨o,e,_⟩:=T.obj _ _ st b B;exact Heap.lt_size e
 have U:tn 0 G:=T.keep _ _ _ st fun b B o e=>old b o e;have I₁:Inv (X.comp s H scope H2.objs.size N fp) [] (fz caps σ) H {s with heap:=G,toks:=s.toks+([]:List (Str×Value)).length}:=I.comp S P hf hfp old ⟨_,l⟩
 have cne:∀x c,(iI X.env.cells scope.names []).lookup x=some c→c<s.heap.objs.size:=fun x c e=>by
  obtain⟨v,z⟩:=I.cell x c (k9 e (fun y d z=>by simp at z));exact z.lt
 have nfs:∀{b:Addr},s.heap.objs.size≤b→b∉kz X.stack:=fun B z=>by
  refine uC (I.stack.mem z) fun _ o ho _=>?_;exact absurd (lt_of_lt_of_le (Heap.lt_size ho) B) (lt_irrefl _)
 -- what stays true of the iterator's and the gathered list's objects
 have h:∀{H':Hp},(∀b∈fp,H' b=none)→∀b∈fp,i5 (X.comp s H scope H2.objs.size N fp) [] H' b:=fun hn b B=>
  ⟨hn b B,ne_of_lt (lt_of_lt_of_le (hfp b B) P),fun z=>(by
   refine mE (hf b B) fun f0 f1 f2 _=>?_
   rcases mem_cons.mp (I.stkSub b z) with e|e
   ·exact f1 e
   ·exact f2 e),.inl B,fun x c e=>(hf b B).2.2.2.2.1 x c (k9 e (fun y d z=>by simp at z)),fun p Z=>absurd (show p∈([]:List (Addr×Obj)) from Z) (by simp)⟩
 have statD:∀{H':Hp},H' s.heap.objs.size=none→i5 (X.comp s H scope H2.objs.size N fp) [] H' s.heap.objs.size:=fun hn=>
  (HD hn a (nfs (le_refl _)) (.inr (le_refl _)) (fun x c e=>ne_of_lt (cne x c e)) (fun p Z=>absurd (show p∈([]:List (Addr×Obj)) from Z) (by simp)))
 have loop:∀s₃:Shared,s₃={s with heap:=G,toks:=s.toks+([]:List (Str×Value)).length}→
   codeAny (model X.prog X.w) X.A (.compLoop (.ListComp elt [⟨tg,iter,ifs,0⟩] scope pos) 0 (.ref it) (.ref s.heap.objs.size) (compEnvC scope (iI X.env.cells scope.names []) H2.objs.size X.env))
    (RR (.ref s.heap.objs.size) H2.objs.size) s₃:=by
  rintro s₃ rfl;refine xr (fun n s'=>∃i ys t H',Inv (X.comp s H scope H2.objs.size N fp) [] (fz caps σ) H' s'∧tn i s'.heap∧(∀b∈fp,H' b=none)∧s'.heap.get? s.heap.objs.size=some (ly t)∧H' s.heap.objs.size=none∧Vals ys t∧W i n ys H') ?_ m0
   ⟨0,[],[],H,I₁,U,fun b B=>(hf b B).1,hacc,I.hok.fresh (le_refl _),.nil,w0⟩
  intro n s3 hZ3;obtain⟨i,ys,t,H3,I3,st3,fr3,ha3,hd3,rv3,w3⟩:=hZ3;have pinD:∀{F:St} {H':Hp} {s':Shared},Inv (X.comp s H scope H2.objs.size N fp) [] F H' s'→s'.heap.get? s.heap.objs.size=some (ly t)→H' s.heap.objs.size=none→Inv (X.comp s H scope H2.objs.size N fp) [(s.heap.objs.size,ly t)] F H' s':=fun I' e n=>
   I'.pins_of fun p Z=>by
    obtain rfl:=mem_singleton.mp Z;exact(u9 e n a (nfs (le_refl _)) (fun v z=>by cases z))
  have M:∀{H':Hp},(∀b∈fp,H' b=none)→∀b∈fp,i5 (X.comp s H scope H2.objs.size N fp) [(s.heap.objs.size,ly t)] H' b:=fun hn b B=>
   ⟨(h hn b B).1,(h hn b B).2.1,(h hn b B).2.2.1,(h hn b B).2.2.2.1,(h hn b B).2.2.2.2.1,fun p Z=>by
    obtain rfl:=mem_singleton.mp (show p∈[(s.heap.objs.size,ly t)] from Z);exact ne_of_gt (hfp b B)⟩
  have I3':=pinD I3 ha3 hd3;have atD:∀{pl:List (Addr×Obj)} {F:St} {H':Hp} {s':Shared},Inv (X.comp s H scope H2.objs.size N fp) ([(s.heap.objs.size,ly t)] ++ pl) F H' s'→s'.heap.get? s.heap.objs.size=some (ly t)∧H' s.heap.objs.size=none:=fun {pl F H' s'} I'=>
   ⟨(I'.pin (s.heap.objs.size,ly t) (by simp)).1,(I'.pin (s.heap.objs.size,ly t) (by simp)).2.1⟩
  rcases turn i n ys H3 w3 with ⟨stop,hsz,fin⟩|⟨go,Nx,hN,step⟩
  ·refine aO (wpAny_noRaise (T.done (X.comp s H scope H2.objs.size N fp) rfl rfl rfl hc i [(s.heap.objs.size,ly t)] s3 _ H3 (fun _ _=>False) I3' (M fr3) st3 stop)) fun r s4 hZ92=>?_;refine cps fun PP kP=>?_;obtain⟨hr,I4⟩:=hZ92;subst hr;obtain⟨ha4,O⟩:=atD (pl:=[]) I4;obtain⟨m4,hn4,_⟩:=id I4.loc;refine kP ?_;clear kP PP;have L:Un (kz X.stack) fp H H3 s.heap s4.heap:=I4.base;have bC:∀{b:Addr} {o:Obj},s.heap.get? b=some o→b≠H2.objs.size∧b≠s.heap.objs.size:=fun e=>⟨by rw[hC];exact ne_of_lt (Nat.lt_succ_of_lt (Heap.lt_size e)),ne_of_lt (Heap.lt_size e)⟩;have freeC:H3 H2.objs.size=none:=I4.free;have un':Un (kz X.stack) fp H (bo H3 s.heap.objs.size (.lst ys)) s.heap s4.heap:={
    keep:=fun b o e n B hx=>(L.keep b o e n B hx)
    slot:=fun b o e n B hx=>by
     obtain⟨sl,z⟩:=L.slot b o e n B hx;exact⟨sl,z⟩
    free:=fun b o e n hx=>by rw[ak (bC e).2];exact L.free b o e n hx
    there:=fun b o e hx=>by
     obtain⟨o',z⟩:=L.there b o e hx;exact⟨o',z⟩
    tups:=fun b xs q=>by
     have z:=L.tups b xs q;rw[ak (aB z O)];exact z
    frzs:=fun b o u q=>by
     have z:=L.frzs b o u q;rw[ak (aB z O)];exact z
    tbls:=fun b ps q=>by
     obtain⟨mo,z⟩:=L.tbls b ps q;exact⟨mo,by rw[ak (aB z O)];exact z⟩}
   have hok':HOk X.prog X.w (bo H3 s.heap.objs.size (.lst ys)) s4.heap:=fun b u eb=>by
    by_cases B:b=s.heap.objs.size
    ·subst B;rw[au]at eb;cases eb;exact(oB hsz t _ rv3 ha4)
    ·rw[ak B]at eb;exact(I4.hok b u eb).stay (fun c v hcc q=>q) (fun c q=>by rw[ak (aB q O)];exact q) fun c xs q=>by rw[ak (aB q O)];exact q
   have I4':Inv X pins σ (bo H3 s.heap.objs.size (.lst ys)) s4:=I.call' (ch:=fp) I4.os un' hok' I4.bare (fun b B=>(m3 ((hf b B).2.2.2.1) ((hf b B).2.1) ((hf b B).2.2.2.2.1) ((hf b B).2.2.2.2.2)));exact hRR _ _ s4 m4 _ hn4 I4' (I.fpOk P (by rw[ak (Ne.symm a)];exact freeC)) (fin _ O)
  ·refine aO (wpAny_noRaise (T.item (X.comp s H scope H2.objs.size N fp) rfl rfl rfl hc i [(s.heap.objs.size,ly t)] s3 _ H3 (fun _ _=>False) I3' (M fr3) st3 go)) fun r s4 hZ93=>?_;obtain⟨u,hr,h4⟩:=hZ93;subst hr;refine aO (wpAny_noRaise h4) fun _ s5 hZ94=>?_;refine GR (hZ94) fun x H5 I5 r5 y5 st5 fr5=>?_;have I5':=I5.pinned (M fr5) (T.obj _ _ st5);refine aO (wpAny_noRaise (hg _ _ _ s5 _ H5 x u _ I5' r5 (ho _ _ _ _ (step x H5 y5)))) fun _ s6 hZ95=>?_;obtain⟨σ6,H6,I6,q6,l6,k6⟩:=hZ95;have Y:∀{pl:List (Addr×Obj)} {H':Hp} {s':Shared},Inv (X.comp s H scope H2.objs.size N fp) pl σ6 H' s'→Inv (X.comp s H scope H2.objs.size N fp) pl (fz caps σ) H' s':=fun I'=>I'.weak l6.symm fun j v e=>by
    obtain⟨k,c1,c2⟩:=qf e;exact k6 j k v c1 e
   refine aO (wpAny_noRaise (ht _ _ _ s6 σ6 H6 _ I6 q6)) fun b s7 hZ96=>?_;obtain⟨H7,I7,q7⟩:=hZ96;have R:∀{F:St} {H':Hp} {s':Shared},Inv (X.comp s H scope H2.objs.size N fp) ([(s.heap.objs.size,ly t)] ++ mr fp s5.heap) F H' s'→tn (i+1) s'.heap∧∀b∈fp,H' b=none:=fun {F H' s'} I'=>
    ⟨T.keep _ _ _ st5 fun b B o e=>(I'.pin (b,o) (mem_append_right _ (mem_append_right _ (dY B e)))).1,fun b B=>by
     obtain⟨o,e,d⟩:=T.obj _ _ st5 b B;exact(I'.pin (b,o) (mem_append_right _ (mem_append_right _ (dY B e)))).2.1⟩
   cases b with
   |false=>
    have q7':Nx ys H7:=q7;refine cps fun PP kP=>?_;obtain⟨m',hm,w7⟩:=hN _ _ q7';obtain⟨ha7,hd7⟩:=atD I7;obtain⟨st7,fr7⟩:=R I7;refine kP ?_;clear kP PP;exact(HJ m' hm (i+1) ys t H7 (Y (I7.pins_of fun p Z=>absurd Z (by simp))) st7 fr7 ha7 hd7 rv3 w7)
   |true=>
    obtain⟨hsz,q7'⟩:ys.length≤sizeLine∧te σ6 H7 (fun y H5=>Nx (ys ++ [y]) H5):=q7;show wpAny _ _ (eval elt _) _ _ s7;refine aO (wpAny_noRaise (he _ _ _ s7 σ6 H7 _ I7 q7')) fun yv s8 hZ97=>?_;refine cps fun PP kP=>?_;obtain⟨y,H8,I8,r8,q8⟩:=hZ97;obtain⟨ha8,hd8⟩:=atD I8;obtain⟨st8,fr8⟩:=R I8;refine kP ?_;clear kP PP;refine append_at ha8 (fun h9 sb hD9=>?_) (by rw[size_toArray,←rv3.length];exact hsz);obtain⟨m',hm,w8⟩:=hN _ _ q8;have I8':Inv (X.comp s H scope H2.objs.size N fp) [] (fz caps σ) H8 s8:=Y (I8.pins_of fun p Z=>absurd Z (by simp));have dD:=statD hd8;refine(HJ m' hm (i+1) (ys ++ [y]) (t ++ [yv]) H8 (I8'.turned (t':=s8.toks) (fun b o B e=>(sb.2 b B).trans e) hd8 dD.2.1 dD.2.2.2.1 dD.2.2.2.2.1 dD.2.2.2.2.2) (T.keep _ _ _ st8 fun b B o e=>(sb.2 b (ne_of_lt (hfp b B))).trans e) fr8 ?_ hd8 (rv3.append (.cons r8 .nil)) w8);rw[hD9,yc]
 exact codeAny_compStart_list (loop _ rfl) (T.self X.A 0 _ _ _ U (loop _ rfl))
theorem wH {elt tg iter:Expr}{ifs:List Expr}{pos:Pos}{wi:TI}{g:TG}{tc:TT}{te:TE}(hc:X.calm=true)(S:CompSc X scope N caps)(hi:PI X tg iter wi)
  (hg:∀s H C ex,PG (X.comp s H scope C N ex) tg g) (ho:kY caps g) (ht:∀s H C ex,GW (X.comp s H scope C N ex) ifs tc) (he:∀s H C ex,PE (X.comp s H scope C N ex) elt te)
  (hs:∀x,foldedSetIterable iter X.env x=pure x:=by intro _;rfl):PE X (.ListComp elt [⟨tg,iter,ifs,0⟩] scope pos) (Bb wi caps g tc te):=by
 intro pins s σ H Q I h;rw[eval_ListComp];have hcl:closureFor scope X.env=pure (iI X.env.cells scope.names []):=j5 fun y hy hk=>I.ok.has y.1 (S.free y hy hk);refine wpAny_comprehension_free (use:=none) rfl hs hcl S.kind S.names (aO (hi pins s σ H _ I h) fun v s1 h1=>aO h1 fun itv s2 h2=>?_);obtain⟨it,fp,tn,J,H2,e,I2,T,st2,f2,W,⟨m0,w0⟩,turn⟩:=h2;subst e;refine oa (RR:=fun acc C=>compPost (model X.prog X.w) X.A X.xe none (EP X pins σ Q) acc C) hc I2 S T st2 f2 (hg _ _) ho (ht _ _) (he _ _) W m0 w0 turn ?_;intro D C s' m H' hn I' fC q;exact⟨m,hn,fun h' sb=>⟨.ref D,H',I'.turned (t':=s'.toks) (fun b o hb e=>(sb.2 b hb).trans e) fC.1 fC.2.1 fC.2.2.2.1 fC.2.2.2.2.1 fC.2.2.2.2.2,rfl,q⟩⟩
theorem pc {elt tg iter:Expr}{ifs:List Expr}{pos py spos:Pos}{wi:TI}{g:TG}{tc:TT}{te:TE}{y:Str}{i:Nat}(hN:X.N.Nodup)(hi:X.N[i]?=some y)(hy:X.env.scope.names.lookup y=some .local)
  (hc:X.calm=true) (S:CompSc X scope N caps) (hit:PI X tg iter wi)
  (hg:∀s H C ex,PG (X.comp s H scope C N ex) tg g) (ho:kY caps g) (ht:∀s H C ex,GW (X.comp s H scope C N ex) ifs tc) (he:∀s H C ex,PE (X.comp s H scope C N ex) elt te)
  (hsw:swapsWith (.ListComp elt [⟨tg,iter,ifs,0⟩] scope pos) (some (.Name y py)) spos.line X.env=pure true:=by rfl)
  (hs:∀x,foldedSetIterable iter X.env x=pure x:=by intro _;rfl):PS X (.Assign [.Name y py] (.ListComp elt [⟨tg,iter,ifs,0⟩] scope pos) spos) (sw (Bb wi caps g tc te) (b9 i)):=by
 intro p s σ H D I h;have hcl:closureFor scope X.env=pure (iI X.env.cells scope.names []):=j5 fun y hy hk=>I.ok.has y.1 (S.free y hy hk);rw[exec_Assign_Name_used _ _ _ _ hsw];refine wpAny_bind (wpAny_standAt (wpAny_bind ?_));show wpAny _ X.A (do let _ ←comprehension (.ListComp elt [⟨tg,iter,ifs,0⟩] scope pos) scope X.env _ (newList []) false (eval iter X.env) (some (assign (.Name y py) X.env))) _ _ s
 refine wpAny_bind (wpAny_mono (wpAny_comprehension_free (use:=some (assign (.Name y py) X.env)) (Q:=fun _ s'=>SP X p D .next s') rfl hs hcl S.kind S.names
  (aO (hit p s σ H _ I h) fun v s1 h1=>aO h1 fun itv s2 h2=>?_)) (fun _ s' hq=>wpAny_pure (wpAny_pure hq)) fun _ _ e=>e)
 obtain⟨it,fp,tn,J,H2,e,I2,T,st2,f2,W,⟨m0,w0⟩,turn⟩:=h2;subst e;refine oa (RR:=fun acc C=>compPost (model X.prog X.w) X.A X.xe (some (assign (.Name y py) X.env)) (fun _ s'=>SP X p D .next s') acc C) (Q:=fun x H1=>b9 i x σ H1 D.nx) hc I2 S T st2 f2 (hg _ _) ho (ht _ _) (he _ _) W m0 w0 turn ?_;intro Dd C s' m H' hn I' fC q;show wpAny _ _ (assign (.Name y py) X.env (.ref Dd)) _ _ s';refine wpAny_assign_Name (qE I' (i:=i) hN hi (.inl hy) (v:=.ref Dd) rfl (fun s5 I5 hZ98=>?_) (.inr hy));obtain⟨a,sb,ha⟩:=hZ98;have ha':a≠C:=by
  rcases ha with z|z
  ·rw[z];exact Ne.symm fC.2.1
  ·exact fC.2.2.2.2.1 _ _ z
 refine⟨m,hn.sameBut sb (Ne.symm ha'),fun h' sb2=>⟨_,H',I5.turned (t':=s5.toks) (fun b o hb e=>(sb2.2 b hb).trans e) fC.1 fC.2.1 fC.2.2.2.1 fC.2.2.2.2.1 fC.2.2.2.2.2,q⟩⟩
end
section
variable{X:Cx}
end
section
variable{X:Cx}{pins:List (Addr×Obj)}{σ:St}{H:Hp}{s:Shared}
structure ExcK (K:W.Frag)(D:Addr):Prop where
 ga:W.findIn K (.ref D) "__getattribute__" =some (some (.builtin "BaseException.__getattribute__"))
 gh:W.findIn K (.ref D) "__getattr__" =some none
 ha:W.findIn K (.ref D) "__class__" =some (some (.builtin "object.__class__"))
 hn:W.specialIn K (.builtin "object.__class__") "__get__" =some (some (.builtin "getset_descriptor.__get__"))
 htk:W.takesIn K (.builtin "object.__class__")=some true
 hm:W.mroIn K D (.type "object")=some true
 hb:W.mroIn K D (.type "BaseException")=some true
 hc:(W.clsIn K D).isSome=true
noncomputable def pZ (e D:Addr)(h:Heap):Prop:=∃o,h.get? e=some o∧o.cls= .ref D
theorem jm {e D:Addr}{M:Model}{h:Heap}(p:pZ e D h):W.Looks M h (typeOf (.ref e)) (.ref D):=by
 obtain⟨o,h1,h2⟩:=p;exact h2 ▸ (W.Looks.ld h1).andThen .now
end
end L2
namespace PySem.W
open PySem PySem.Spec PySem.Calls PyProof.Rows Builtin Builtin.ObjectAttr Builtin.Getset_descriptor
section
variable{prog:Program}{w:World}{A:Around}{E:Value→Shared→Prop}{s:Shared}{K:Frag}{x C:Addr}
theorem pO {R:Result→Shared→Prop}{tp:Value}(X:K.In s.heap)(I:L2.pZ x C s.heap)(hm:mroIn K C (.type "object")=some true)
  (h:R (.ok (.ret (.ref C))) s):codeAny (model prog w) A (.call (.builtin "getset_descriptor.__get__") ⟨[.builtin "object.__class__",.ref x,tp],[]⟩) R s:=by
 obtain⟨hh,g,dr,t,os⟩:=s;have L0:=L2.jm (M:=model prog w) I;have L1:=looks_mroIn (M:=model prog w) X hm;refine codeAny_call_builtin KF.slot_gs.plain KF.entry_gs (KF.slot_gs.check _ _ _ _ _ _ _ _ KF.type_class (KF.args_gs _ _ _) ?_);unfold Builtin.«getset_descriptor.__get__» descrGet;rw[dga_obj];refine wpAny_bind (wpAny_pure ?_);unfold descrGetter descrCheckInstance descrNameAndClass isInstance;simp only[KF.owner_class]
 repeat lk
 refine⟨Code.quiet_builtin _ (by decide +kernel),codeAny_builtin KF.entry_class ?_⟩;unfold Builtin.«object.__class__» shownTypeOf
 repeat lk
 exact h
theorem zo {M:Model}(X:K.In s.heap)(k:L2.ExcK K C):Looks M s.heap (find (.ref x) (.ref C) "__class__") (.bind (.builtin "getset_descriptor.__get__") (.builtin "object.__class__")):=by
 have L1:=looks_findIn (M:=M) X k.ha;have L2:Looks M s.heap (getOf (some (.builtin "object.__class__"))) (some (.builtin "getset_descriptor.__get__")):=looks_specialIn X k.hn;have L3:=looks_takesIn (M:=M) X k.htk;exact L1.andThen (L2.andThen ((show Looks M s.heap (dataDescriptor? (some (.builtin "object.__class__")) (some (.builtin "getset_descriptor.__get__"))) (some (.builtin "getset_descriptor.__get__",.builtin "object.__class__")) from L3.andThen .now).andThen (Looks.tag .now)))
theorem xE {tk:Tok}{Q:PySem.Fin→Shared→Prop}(X:K.In s.heap)(I:L2.pZ x C s.heap)(k:L2.ExcK K C)(h:Q (.done (.ret (.ref C))) s) :
  wpAny (model prog w) A (Builtin.«object.__getattribute__» ⟨[.ref x,.str "__class__" tk],[]⟩) Q E s:=by
 obtain⟨hh,g,d,t,os⟩:=s;have L0:=L2.jm (M:=model prog w) I;have LF:=zo (M:=model prog w) (x:=x) X k;unfold Builtin.«object.__getattribute__»;refine wpAny_bind (wpAny_pure ?_);refine wpAny_bind (wpAny_pure ?_);refine wpAny_bind (L0.at (wpAny_bind (LF.at ?_)));show wpAny _ _ (holding [.builtin "object.__class__"] (call (.builtin "getset_descriptor.__get__") [.builtin "object.__class__",.ref x,.ref C]) >>= fun v=>ret v) _ _ _;refine wpAny_bind (wpAny_holding (wpAny_call (pO (s:=⟨hh,g,d,t,os⟩) X I k.hm ?_)));exact wpAny_pure h
theorem xD {M:Model}{nameV:Value}{Q:Unit→Shared→Prop}(X:K.In s.heap)(I:L2.pZ x C s.heap)(k:L2.ExcK K C)(hq:Q () s):wpAny M A (checkBuiltinCall "BaseException.__getattribute__" ⟨[.ref x,nameV],[]⟩) Q E s:=by
 obtain⟨hh,g,d,t,os⟩:=s;have L0:=L2.jm (M:=M) I;have L3:=looks_mroIn (M:=M) X k.hb;have hk:builtinKind "BaseException.__getattribute__" =some .slot:=by decide +kernel
 have u:splitId "BaseException.__getattribute__" =some ("BaseException","__getattribute__"):=by decide +kernel
 have hargs:=PySem.F.args_bexc_ga (.ref x) nameV;simp only[checkBuiltinCall,hk,u];refine wpAny_bind ?_;unfold isInstance;refine wpAny_bind (L0.at (L3.at ?_));simp only[if_true,Bool.not_true,false_eq_true,if_false]
 repeat (first|assumption|wp_step)
theorem exc_class {Q:Option Value→Shared→Prop}(X:K.In s.heap)(I:L2.pZ x C s.heap)(k:L2.ExcK K C)(h:Q (some (.ref C)) {s with toks:=s.toks+1}):wpAny (model prog w) A (getAttr? (.ref x) "__class__") Q E s:=by
 obtain⟨hh,g,d,t,os⟩:=s;have L0:=L2.jm (M:=model prog w) I;have L1:=looks_findIn (M:=model prog w) X k.ga;have L2':=looks_findIn (M:=model prog w) X k.gh;unfold getAttr? getAttrBy? getAttrBy;refine wpAny_bind (wpAny_mkText (wpAny_bind (wpAny_attempt (wpAny_holding (wpAny_bind (L0.at (wpAny_bind (L1.at ?_))))))));dsimp only;have hx:(onTheHeap (Value.ref C)&&Value.builtin "BaseException.__getattribute__"==Value.builtin "object.__getattribute__")=false:=by
  have hx2:(Value.builtin "BaseException.__getattribute__"==Value.builtin "object.__getattribute__")=false:=by decide +kernel
  rw[hx2];rfl
 rw[hx];rw[if_neg Bool.false_ne_true];have f3:=PySem.F.excAttr_ValueError.ga.bind (.ref x);unfold getAttrByItsOwn;refine wpAny_bind ?_;show wpAny _ _ (typeLookup (.ref C) "__getattr__") _ _ _;refine L2'.at ?_;refine wpAny_bind (wpAny_attempt (wpAny_holding ?_));show wpAny _ _ (bindSpecial (.builtin "BaseException.__getattribute__") (.ref x) >>= fun p=>call p.1 (p.2 ++ [.str "__class__" t])) _ _ _;refine wpAny_bind (wpAny_of_eq f3 ?_);show wpAny _ _ (call (.builtin "BaseException.__getattribute__") [.ref x,.str "__class__" t]) _ _ _;refine wpAny_call (codeAny_call_builtin PySem.F.excAttr_ValueError.ga.plain PySem.F.entry_bexc_ga ?_);refine xD (s:=⟨hh,g,d,t+1,os⟩) X I k ?_;refine xE (s:=⟨hh,g,d,t+1,os⟩) X I k ?_;exact handed_on rfl (wpAny_pure h)
end
end PySem.W
namespace L2
open PySem PySem.Spec PyProof.Rows
theorem zP {K:W.Frag}{e D:Addr}(k:ExcK K D):W.KitX K (.ref e) (.ref D) (pZ e D) where
 ty:=fun _ _ _ p=>jm p
 it:=fun _ _ X _=>by
  have hc:=k.hc;unfold W.clsIn at hc;split at hc
  ·rename_i c' d' cd' sl' ho;intro A' Q' E' s' k q;unfold isType loadHead;exact wpAny_bind (wpAny_loadPart (k _ _ (X _ _ ho)) (wpAny_pure q))
  ·cases hc
 ne:=fun h tp dd its n sl X htp=>by
  have hc:=k.hc;refine Bool.eq_false_iff.mpr fun q=>?_;have e:D=tp:=Value.ref.inj (beq_iff_eq.mp q);subst e;unfold W.clsIn at hc;split at hc
  ·rename_i c' d' cd' sl' ho;have z:=(X _ _ ho).symm.trans htp;cases z
  ·cases hc
 ca:=fun X I h=>W.exc_class X I k h
section
variable{X:Cx}{pins:List (Addr×Obj)}{σ:St}{H:Hp}{s:Shared}
noncomputable def cV:V→Value
 |.ref a=>.ref a
 |.ty n=>.type n
 |_=>.none
theorem EH {v:V}{u:Value}(h:RelV v u)(hv:cV v≠ .none):u=cV v:=by
 cases v with
 |ref a=>exact h
 |ty n=>exact h
 |_=>exact absurd rfl hv
end
inductive D where
 |non|bl (b:Bool)|int (i:Int)|str (x:Str)|lst (l:List D)|tup (l:List D)
 |ins (C:Addr) (ns:List Str) (l:List D)
 |dct (ks:List (List bF)) (l:List D)
 |scr (ns:List Int)
 |xc (C:Addr)
 |fdc (ks:List (List bF)) (l:List D)
inductive Res (α:Type) where
 |ok (a:α)|exc (c:Addr)|bad
noncomputable def Res.bind {α β:Type}:Res α→(α→Res β)→Res β
 |.ok a,f=>f a
 |.exc c,_=>.exc c
 |.bad,_=>.bad
structure LsS (K:W.Frag)(G:Hp)(a:Addr)(xs:List V):Prop where
 h:G a=some (.lst xs)
theorem LsS.of {K:W.Frag}{G:Hp}{a:Addr}{xs:List V}(h:G a=some (.lst xs)):LsS K G a xs:=⟨h⟩
theorem LsS.sq {K:W.Frag}{G:Hp}{a:Addr}{xs:List V}(h:LsS K G a xs):gC K G a xs:=.inl (.inl h.h)
structure TpS (K:W.Frag)(G:Hp)(a:Addr)(xs:List V):Prop where
 h:G a=some (.tup xs)
theorem TpS.of {K:W.Frag}{G:Hp}{a:Addr}{xs:List V}(h:G a=some (.tup xs)):TpS K G a xs:=⟨h⟩
theorem TpS.sq {K:W.Frag}{G:Hp}{a:Addr}{xs:List V}(h:TpS K G a xs):nk K G a xs:=.inl (.inl h.h)
instance {K:W.Frag}{G:Hp}{a:Addr}{xs:List V}:Coe (TpS K G a xs) (nk K G a xs):=⟨TpS.sq⟩
mutual
noncomputable def Rep (K:W.Frag)(G:Hp):D→V→Prop
 |.non,v=>v= .non
 |.bl b,v=>v= .bl b
 |.int i,v=>v= .int i
 |.str x,v=>v= .str x
 |.lst ds,v=>∃a xs,v= .ref a∧LsS K G a xs∧RepL K G ds xs
 |.tup ds,v=>∃a xs,v= .ref a∧TpS K G a xs∧RepL K G ds xs
 |.ins C ns ds,v=>∃a dx fs,v= .ref a∧G a=some (.ins C dx fs)∧fs.map (·.1)=ns∧RepL K G ds (fs.map (·.2))
 |.dct ks ds,v=>∃a kvs,v= .ref a∧Rd G a (.dT kvs)∧kvs.map (·.1)=ks∧RepL K G ds (kvs.map (·.2))
 |.scr ns,v=>∃a,v= .ref a∧gC K G a (ns.map V.int)
 |.xc C,v=>∃a,v= .ref a∧G a=some (Ew a (.ref C))∧ExcK K C
 |.fdc ks ds,v=>∃a o kvs,v= .ref a∧G a=some (.frz o (.dT kvs))∧kvs.map (·.1)=ks∧RepL K G ds (kvs.map (·.2))
noncomputable def RepL (K:W.Frag)(G:Hp):List D→List V→Prop
 | [],vs=>vs=[]
 |d::ds,vs=>∃v r,vs=v::r∧Rep K G d v∧RepL K G ds r
end
theorem Same.seqT {K:W.Frag}{H H':Hp}{a:Addr}{xs:List V}(e:Same H H')(h:nk K H a xs):nk K H' a xs:=by
 rcases h with (h|⟨o,h⟩)|h
 ·exact .inl (.inl (e _ _ h))
 ·exact .inl (.inr ⟨o,e _ _ h⟩)
 ·exact .inr h
mutual
theorem Rep.mono {K:W.Frag}{G G':Hp}(e:Same G G'):∀{d:D} {v:V},Rep K G d v→Rep K G' d v
 |.non,_,h=>h
 |.bl _,_,h=>h
 |.int _,_,h=>h
 |.str _,_,h=>h
 |.lst _,_,h=>by
  unfold Rep at h ⊢;refine bA (h) fun a xs r s t=>?_;exact(dR a xs r ⟨e _ _ s.h⟩ (RepL.mono e t))
 |.tup _,_,h=>by
  unfold Rep at h ⊢;refine bA (h) fun a xs r s t=>?_;exact(dR a xs r ⟨e _ _ s.h⟩ (RepL.mono e t))
 |.ins _ _ _,_,h=>by
  unfold Rep at h ⊢;refine ja (h) fun a dx fs r s n t=>?_;exact(jb a dx fs r (e _ _ s) n (RepL.mono e t))
 |.dct _ _,_,h=>by
  unfold Rep at h ⊢;refine pG (h) fun a kvs r s n t=>?_;refine(l9 a kvs r ?_ n (RepL.mono e t))
  rcases s with s|⟨o,s⟩
  ·exact .inl (e _ _ s)
  ·exact .inr ⟨o,e _ _ s⟩
 |.scr _,_,h=>by
  unfold Rep at h ⊢;obtain⟨a,r,s⟩:=h;exact⟨a,r,e.seq s⟩
 |.xc _,_,h=>by
  unfold Rep at h ⊢;refine cj (h) fun a r s k=>?_;exact(gW a r (e _ _ s) k)
 |.fdc _ _,_,h=>by
  unfold Rep at h ⊢;refine ja (h) fun a o kvs r s n t=>?_;exact(jb a o kvs r (e _ _ s) n (RepL.mono e t))
theorem RepL.mono {K:W.Frag}{G G':Hp}(e:Same G G'):∀{ds:List D} {vs:List V},RepL K G ds vs→RepL K G' ds vs
 | [],_,h=>h
 |_::_,_,h=>by
  unfold RepL at h ⊢;refine bA (h) fun v r q a b=>?_;exact(dR v r q (Rep.mono e a) (RepL.mono e b))
end
theorem RepL.length {K:W.Frag}{G:Hp}:∀{ds:List D} {vs:List V},RepL K G ds vs→ds.length=vs.length:=by
 intro l_
 induction l_ with
 |nil=>
  rintro vs h;exact by unfold RepL at h;rw[h];rfl
 |cons d ds ihh=>
  rintro vs h;unfold RepL at h;refine bA (h) fun v r hS47 _ b=>?_;subst hS47;rw[length_cons,length_cons,ihh b]
theorem RepL.nil {K:W.Frag}{G:Hp}:RepL K G [] []:=by unfold RepL;rfl
theorem RepL.cons {K:W.Frag}{G:Hp}{d:D}{v:V}{ds:List D}{vs:List V}(a:Rep K G d v)(b:RepL K G ds vs):RepL K G (d::ds) (v::vs):=by unfold RepL;exact(dR v vs rfl a b)
theorem RepL.inv {K:W.Frag}{G:Hp}{d:D}{ds:List D}{vs:List V}(h:RepL K G (d::ds) vs):∃v r,vs=v::r∧Rep K G d v∧RepL K G ds r:=by unfold RepL at h;exact h
theorem RepL.inv0 {K:W.Frag}{G:Hp}{vs:List V}(h:RepL K G [] vs):vs=[]:=by unfold RepL at h;exact h
theorem RepL.append {K:W.Frag}{G:Hp}:∀{ds es:List D} {vs ws:List V},RepL K G ds vs→RepL K G es ws→RepL K G (ds ++ es) (vs ++ ws):=by
 intro l_
 induction l_ with
 |nil=>
  rintro _ _ _ h h';exact by rw[h.inv0];exact h'
 |cons _ xs_ ihh=>
  rintro _ _ _ h h';refine bA (h.inv) fun v r hS48 a b=>?_;subst hS48;exact .cons a (ihh b h')
theorem RepL.get {K:W.Frag}{G:Hp}:∀{ds:List D} {vs:List V} {i:Nat} {d:D},RepL K G ds vs→ds[i]?=some d→∃v,vs[i]?=some v∧Rep K G d v
 | [],_,_,_,_,e=>by simp at e
 |_::_,_,0,_,h,e=>by
  refine bA (h.inv) fun v r hS49 a b=>?_;subst hS49;simp at e;subst e;exact⟨v,rfl,a⟩
 |_::_,_,i+1,_,h,e=>by
  refine cps fun PP kP=>?_;refine bA (h.inv) fun v r hS50 a b=>?_;subst hS50;obtain⟨w,h1,h2⟩:=RepL.get (i:=i) b (by simpa using e);refine kP ?_;clear kP PP;exact⟨w,by simpa using h1,h2⟩
theorem RepL.take {K:W.Frag}{G:Hp}:∀{ds:List D} {vs:List V} (n:Nat),RepL K G ds vs→RepL K G (ds.take n) (vs.take n)
 |_,_,0,_=>by simpa using RepL.nil
 | [],_,_+1,h=>by rw[h.inv0];simpa using RepL.nil
 |_::_,_,n+1,h=>by
  refine bA (h.inv) fun v r hS51 a b=>?_;subst hS51;exact .cons a (RepL.take n b)
theorem RepL.drop {K:W.Frag}{G:Hp}:∀{ds:List D} {vs:List V} (n:Nat),RepL K G ds vs→RepL K G (ds.drop n) (vs.drop n)
 |_,_,0,h=>h
 | [],_,_+1,h=>by rw[h.inv0];simpa using RepL.nil
 |_::_,_,n+1,h=>by
  refine bA (h.inv) fun v r hS52 a b=>?_;subst hS52;exact RepL.drop n b
theorem RepL.reverse {K:W.Frag}{G:Hp}:∀{ds:List D} {vs:List V},RepL K G ds vs→RepL K G ds.reverse vs.reverse:=by
 intro l_
 induction l_ with
 |nil=>
  rintro _ h;exact by rw[h.inv0];simpa using RepL.nil
 |cons _ xs_ ihh=>
  rintro _ h;refine bA (h.inv) fun v r hS53 a b=>?_;subst hS53;rw[reverse_cons,reverse_cons];exact(ihh b).append (.cons a .nil)
theorem RepL.ints {K:W.Frag}{G:Hp}:∀{ns:List Int} {vs:List V},RepL K G (ns.map D.int) vs→vs=ns.map V.int:=by
 intro l_
 induction l_ with
 |nil=>
  rintro _ h;exact h.inv0
 |cons n ns ihh=>
  rintro _ h;refine bA (RepL.inv (by simpa using h)) fun v r hS54 a b=>?_;subst hS54;rw[ihh b];have a':v= .int n:=by unfold Rep at a;exact a
  rw[a'];rfl
theorem RepL.of_ints {K:W.Frag}{G:Hp}:∀(ns:List Int),RepL K G (ns.map D.int) (ns.map V.int):=by
 intro l_
 induction l_ with
 |nil=>
  exact .nil
 |cons n ns ihh=>
  exact .cons (by unfold Rep;rfl) (ihh)
noncomputable def oH (o:HO):Prop:=∃ks:List bF,o= .tup (ks.map kV)
structure Ext (G H G' H':Hp):Prop where
 hh:Same H H'
 gg:Same G G'
 gh:Same G' H'
 nw:∀b o,G' b=some o→G b=some o∨H b=none∨oH o
theorem Ext.refl {G H:Hp}(s:Same G H):Ext G H G H:=⟨.refl _,.refl _,s,fun _ _ h=>.inl h⟩
theorem Ext.trans {G H G1 H1 G2 H2:Hp}(a:Ext G H G1 H1)(b:Ext G1 H1 G2 H2):Ext G H G2 H2:=
 ⟨a.hh.trans b.hh,a.gg.trans b.gg,b.gh,fun c o h=>(b.nw c o h).elim (fun z=>a.nw c o z) fun z=>.inr (z.imp a.hh.free id)⟩
theorem Ext.new {G H:Hp}(s:Same G H){p:Addr}(hp:H p=none)(o:HO):Ext G H (bo G p o) (bo H p o):=
 ⟨fun b u e=>by rw[ak (aB e hp)];exact e,fun b u e=>by rw[ak (aB (s b u e) hp)];exact e,
  fun b u e=>by
   by_cases hb:b=p
   ·subst hb;rw[au]at e ⊢;exact e
   ·rw[ak hb]at e ⊢;exact s b u e,
  fun b u e=>by
   by_cases hb:b=p
   ·subst hb;exact .inr (.inl hp)
   ·rw[ak hb]at e;exact .inl e⟩
noncomputable def OkR {α:Type}(E:XK)(H:Hp):Res α→Prop
 |.ok _=>True
 |.exc c=>∀H',Same H H'→E (.ref c) none H'
 |.bad=>False
theorem OkR.fst {α β:Type}{E:XK}{H:Hp}{x:Res α}{f:α→Res β}(h:OkR E H (x.bind f)):OkR E H x:=by
 cases x with
 |ok a=>trivial
 |exc c=>exact h
 |bad=>exact h
theorem OkR.snd {α β:Type}{E:XK}{H H1:Hp}{x:Res α}{f:α→Res β}{a:α}(h:OkR E H (x.bind f))(e:x= .ok a)(s:Same H H1):OkR E H1 (f a):=by
 subst e;have h':OkR E H (f a):=h;cases q:f a with
 |ok b=>trivial
 |exc c=>rw[q]at h';exact fun H' s'=>h' H' (s.trans s')
 |bad=>rw[q]at h';exact h'
theorem OkR.le {α:Type}{E:XK}{H H1:Hp}{x:Res α}(h:OkR E H x)(s:Same H H1):OkR E H1 x:=by
 cases x with
 |ok b=>trivial
 |exc c=>exact fun H' s'=>h H' (s.trans s')
 |bad=>exact h
theorem al {α β:Type}{x:Res α}{f:α→Res β}{a:α}{b:β}(e:x= .ok a)(h:f a= .ok b):x.bind f= .ok b:=by subst e;exact h
noncomputable abbrev DS:=List (Option D)
noncomputable def Ro (K:W.Frag)(G:Hp)(σ:St)(ρ:DS):Prop:=∀(i:Nat) (d:D),ρ[i]?=some (some d)→∃v,σ[i]?=some (some v)∧Rep K G d v
theorem Ro.mono {K:W.Frag}{G G':Hp}{σ:St}{ρ:DS}(h:Ro K G σ ρ)(s:Same G G'):Ro K G' σ ρ:=fun i d e=>let ⟨v,a,b⟩:=h i d e;⟨v,a,b.mono s⟩
theorem Ro.nil {K:W.Frag}{G:Hp}{σ:St}:Ro K G σ []:=fun i d e=>by simp at e
theorem Ro.cons {K:W.Frag}{G:Hp}{σ:St}{ρ:DS}{v:V}{d:D}(a:Rep K G d v)(h:Ro K G σ ρ):Ro K G (some v::σ) (some d::ρ):=fun i e q=>by
 cases i with
 |zero=>simp at q;subst q;exact⟨v,rfl,a⟩
 |succ i=>simpa using h i e (by simpa using q)
theorem Ro.skip {K:W.Frag}{G:Hp}{σ:St}{ρ:DS}{o:Option V}(h:Ro K G σ ρ):Ro K G (o::σ) (none::ρ):=fun i e q=>by
 cases i with
 |zero=>simp at q
 |succ i=>simpa using h i e (by simpa using q)
inductive DQ (X:Cx)(pins:List (Addr×Obj))(σ:St)(G H:Hp)(o:Res D)(u:Value)(s':Shared):Prop
 |mk (d:D) (e:o= .ok d) (v:V) (G' H':Hp) (i:Inv X pins σ H' s') (r:RelV v u) (x:Ext G H G' H') (p:Rep X.K G' d v)
inductive DAQ (X:Cx)(pins:List (Addr×Obj))(σ:St)(G H:Hp)(o:Res (List D))(us:List Value)(s':Shared):Prop
 |mk (ds:List D) (e:o= .ok ds) (vs:List V) (G' H':Hp) (i:Inv X pins σ H' s') (r:Vals vs us) (x:Ext G H G' H') (p:RepL X.K G' ds vs)
inductive DTQ (X:Cx)(pins:List (Addr×Obj))(σ:St)(G H:Hp)(o:Res Bool)(b:Bool)(s':Shared):Prop
 |mk (e:o= .ok b) (G' H':Hp) (i:Inv X pins σ H' s') (x:Ext G H G' H')
noncomputable def PD (X:Cx)(E:XK)(e:Expr)(f:DS→Res D):Prop:=
 ∀(pins:List (Addr×Obj)) (s:Shared) (σ:St) (G H:Hp) (ρ:DS),Inv X pins σ H s→Same G H→Ro X.K G σ ρ→OkR E H (f ρ)→
  wpAny (model X.prog X.w) X.A (eval e X.env) (DQ X pins σ G H (f ρ)) X.xe s
noncomputable def mW (X:Cx)(E:XK)(es:List Expr)(f:DS→Res (List D)):Prop:=
 ∀(pos:Pos) (pins:List (Addr×Obj)) (s:Shared) (σ:St) (G H:Hp) (ρ:DS),Inv X pins σ H s→Same G H→Ro X.K G σ ρ→OkR E H (f ρ)→
  wpAny (model X.prog X.w) X.A (spliced (backTo pos (starEach es X.env))) (DAQ X pins σ G H (f ρ)) X.xe s
noncomputable def uG (X:Cx)(E:XK)(e:Expr)(f:DS→Res Bool):Prop:=
 ∀(pins:List (Addr×Obj)) (s:Shared) (σ:St) (G H:Hp) (ρ:DS),Inv X pins σ H s→Same G H→Ro X.K G σ ρ→OkR E H (f ρ)→
  wpAny (model X.prog X.w) X.A (isTrue e X.env (eval e X.env)) (DTQ X pins σ G H (f ρ)) X.xe s
noncomputable def PDW (X:Cx)(E:XK)(e:Expr)(f:DS→Res Bool):Prop:=
 ∀(whole:Sem Value) (pins:List (Addr×Obj)) (s:Shared) (σ:St) (G H:Hp) (ρ:DS),Inv X pins σ H s→Same G H→Ro X.K G σ ρ→OkR E H (f ρ)→
  wpAny (model X.prog X.w) X.A (isTrue e X.env whole) (DTQ X pins σ G H (f ρ)) X.xe s
theorem PDW.pt {X:Cx}{E:XK}{e:Expr}{f:DS→Res Bool}(h:PDW X E e f):uG X E e f:=h _
inductive tD (K:W.Frag)(E:XK)(f:DS→Res D)(σ:St)(H:Hp)(Q:VK):Prop
 |mk (G:Hp) (ρ:DS) (s:Same G H) (r:Ro K G σ ρ) (o:OkR E H (f ρ)) (k:∀d,f ρ= .ok d→∀v G' H',Ext G H G' H'→Rep K G' d v→Q v H')
theorem fS {X:Cx}{E:XK}{e:Expr}{f:DS→Res D}(h:PD X E e f):PE X e (tD X.K E f):=by
 intro pins s σ H Q I hZ4;obtain⟨G,ρ,hs,hr,ho,k⟩:=hZ4;refine aO (h pins s σ G H ρ I hs hr ho) fun u s' hZ99=>(by obtain⟨d,e,v,G',H',I',rv,x,rp⟩:=hZ99;exact⟨v,H',I',rv,k d e v G' H' x rp⟩)
inductive tDT (K:W.Frag)(E:XK)(f:DS→Res Bool)(σ:St)(H:Hp)(Q:Bool→Hp→Prop):Prop
 |mk (G:Hp) (ρ:DS) (s:Same G H) (r:Ro K G σ ρ) (o:OkR E H (f ρ)) (k:∀b,f ρ= .ok b→∀G' H',Ext G H G' H'→Q b H')
theorem Jx {X:Cx}{E:XK}{e:Expr}{f:DS→Res Bool}(h:uG X E e f):PT X e (tDT X.K E f):=by
 intro pins s σ H Q I hZ5;obtain⟨G,ρ,hs,hr,ho,k⟩:=hZ5;refine aO (h pins s σ G H ρ I hs hr ho) fun b s' hZ100=>(by obtain⟨e,G',H',I',x⟩:=hZ100;exact⟨H',I',k b e G' H' x⟩)
inductive tDA (K:W.Frag)(E:XK)(f:DS→Res (List D))(σ:St)(H:Hp)(Q:List V→Hp→Prop):Prop
 |mk (G:Hp) (ρ:DS) (s:Same G H) (r:Ro K G σ ρ) (o:OkR E H (f ρ)) (k:∀ds,f ρ= .ok ds→∀vs G' H',Ext G H G' H'→RepL K G' ds vs→Q vs H')
theorem jC {X:Cx}{E:XK}{es:List Expr}{f:DS→Res (List D)}(h:mW X E es f):PA X es (tDA X.K E f):=by
 intro pos pins s σ H Q I hZ6;obtain⟨G,ρ,hs,hr,ho,k⟩:=hZ6;refine aO (h pos pins s σ G H ρ I hs hr ho) fun us s' hZ101=>(by obtain⟨ds,e,vs,G',H',I',rv,x,rp⟩:=hZ101;exact⟨vs,H',I',rv,k ds e vs G' H' x rp⟩)
section
variable{X:Cx}{E:XK}
theorem Gh {i:Nat}{x:Str}{pos:Pos}(hN:X.N[i]?=some x)(hv:yP X.env.scope x)(hd:(x==("__debug__" :Str))=false:=by decide)(hcd:(x==("__classdict__" :Str))=false:=by decide) :
  PD X E (.Name x pos) (fun ρ=>match ρ[i]? with|some (some d)=>.ok d|_=>.bad):=by
 intro pins s σ G H ρ I hs hr ho;cases e:ρ[i]? with
 |none=>simp only[e]at ho;exact ho.elim
 |some o=>
  cases o with
  |none=>simp only[e]at ho;exact ho.elim
  |some d=>
   obtain⟨v,hv',rp⟩:=hr i d e;exact aO (iQ hN hv hd hcd pins s σ H (fun v' H'=>H'=H∧v'=v) I (gW v hv' rfl rfl)) fun u s' hZ102=>by
    obtain⟨v',H',I',r,e1,e2⟩:=hZ102;subst e1 e2;exact⟨d,by simp only[e],v',G,H',I',r,.refl hs,rp⟩
theorem nH {e:Expr}{t:TE}{d:D}(h:PE X e t)(ht:∀σ H,t σ H fun v H'=>H'=H∧∀G,Rep X.K G d v):PD X E e (fun _=>.ok d):=by
 intro pins s σ G H ρ I hs hr ho;refine aO (h pins s σ H _ I (ht σ H)) fun u s' hZ103=>?_;obtain⟨v,H',I',r,e1,e2⟩:=hZ103;subst e1;exact⟨d,rfl,v,G,H',I',r,.refl hs,e2 G⟩
theorem ah {i j pos}:PD X E (.Constant (.int i) j pos) (fun _=>.ok (.int i)):=nH As fun _ _=>⟨rfl,fun _=>by unfold Rep;rfl⟩
theorem dU {b j pos}:PD X E (.Constant (.bool b) j pos) (fun _=>.ok (.bl b)):=nH Ir fun _ _=>⟨rfl,fun _=>by unfold Rep;rfl⟩
theorem Am {x j pos}:PD X E (.Constant (.str x) j pos) (fun _=>.ok (.str x)):=nH Gm fun _ _=>⟨rfl,fun _=>by unfold Rep;rfl⟩
theorem Aj {x:Str}{i:Int}{u:Value}{pos:Pos}(hg:Gl X x)(hm:X.mg x=some u)(r:∃t,u= .int i t)(hd:(x==("__debug__" :Str))=false:=by decide):PD X E (.Name x pos) (fun _=>.ok (.int i)):=
 nH (Da (v:=.int i) hg hm r hd) fun _ _=>⟨rfl,fun _=>by unfold Rep;rfl⟩
theorem ac:mW X E [] (fun _=>.ok []):=fun _ _ _ _ G H _ I hs _ _=>Calls.spliced_nil ⟨[],rfl,[],G,H,I,.nil,.refl hs,.nil⟩
theorem aa {e:Expr}{es:List Expr}{f:DS→Res D}{g:DS→Res (List D)}(ha:PD X E e f)(hr:mW X E es g)(hs:starEach (e::es) X.env=(false,eval e X.env)::starEach es X.env:=by rfl) :
  mW X E (e::es) (fun ρ=>(f ρ).bind fun d=>(g ρ).bind fun ds=>.ok (d::ds)):=by
 intro pos pins s σ G H ρ I hsm hro ho;have key:PA X (e::es) (w_ (tD X.K E f) (tDA X.K E g)):=dG (fS ha) (jC hr) hs;refine aO (key pos pins s σ H (fun vs H'=>∃ds,((f ρ).bind fun d=>(g ρ).bind fun ds=>.ok (d::ds))= .ok ds∧∃G',Ext G H G' H'∧RepL X.K G' ds vs) I ?_) fun us s' hZ104=>(by obtain⟨vs,H',I',r,ds,e1,G',x,rp⟩:=hZ104;exact⟨ds,e1,vs,G',H',I',r,x,rp⟩);refine⟨G,ρ,hsm,hro,ho.fst,fun d ed v G1 H1 x1 r1=>⟨G1,ρ,x1.gh,hro.mono x1.gg,(ho.snd ed x1.hh).fst,fun ds eds vs G2 H2 x2 r2=>⟨d::ds,al ed (al eds rfl),G2,x1.trans x2,.cons (r1.mono x2.gg) r2⟩⟩⟩
noncomputable def DOp (X:Cx)(E:XK)(f:Value→Value→Sem Value)(g:D→D→Res D):Prop:=
 ∀(pins:List (Addr×Obj)) (s:Shared) (σ:St) (G H:Hp) (x y:V) (dx dy:D) (v u:Value),Inv X pins σ H s→Same G H→Rep X.K G dx x→Rep X.K G dy y→RelV x v→RelV y u→OkR E H (g dx dy)→
  wpAny (model X.prog X.w) X.A (f v u) (DQ X pins σ G H (g dx dy)) X.xe s
theorem DOp.of {f:Value→Value→Sem Value}{r:R2}{g:D→D→Res D}(ho:sI X f r)
  (h:∀(G H:Hp) (x y:V) (dx dy:D),Same G H→Rep X.K G dx x→Rep X.K G dy y→OkR E H (g dx dy)→r x y H (fun v' H'=>∃d G',g dx dy= .ok d∧Ext G H G' H'∧Rep X.K G' d v')):DOp X E f g:=by
 intro pins s σ G H x y dx dy v u I hs rx ry rv ru ok;refine aO (ho pins s σ H x y v u _ I rv ru (h G H x y dx dy hs rx ry ok)) fun w s' hZ105=>(by obtain⟨v',H',I',r',d,G',e,x',rp⟩:=hZ105;exact⟨d,e,v',G',H',I',r',x',rp⟩)
noncomputable def ae (f:DS→Res D)(g:DS→Res D)(o:D→D→Res D):DS→Res D:=fun ρ=>(f ρ).bind fun a=>(g ρ).bind fun b=>o a b
theorem vB {a b:Expr}{fa fb:DS→Res D}(ha:PD X E a fa)(hb:PD X E b fb){op:Value→Value→Sem Value}{o:D→D→Res D}(hop:DOp X E op o){pins:List (Addr×Obj)}{s:Shared}{σ:St}{G H:Hp}{ρ:DS}(I:Inv X pins σ H s)(hs:Same G H)(hro:Ro X.K G σ ρ)(ho:OkR E H (ae fa fb o ρ)) :
  wpAny (model X.prog X.w) X.A (eval a X.env) (fun v s₁=>wpAny (model X.prog X.w) X.A (eval b X.env) (fun u s₂=>wpAny (model X.prog X.w) X.A (op v u) (DQ X pins σ G H (ae fa fb o ρ)) X.xe s₂) X.xe s₁) X.xe s:=by
 refine aO (ha pins s σ G H ρ I hs hro ho.fst) fun v s1 hZ106=>?_;obtain⟨d1,e1,v1,G1,H1,I1,r1,x1,p1⟩:=hZ106;refine aO (hb pins s1 σ G1 H1 ρ I1 x1.gh (hro.mono x1.gg) (ho.snd e1 x1.hh).fst) fun u s2 hZ107=>?_;obtain⟨d2,e2,v2,G2,H2,I2,r2,x2,p2⟩:=hZ107;refine aO (hop pins s2 σ G2 H2 v1 v2 d1 d2 v u I2 x2.gh (p1.mono x2.gg) p2 r1 r2 ((ho.snd e1 x1.hh).snd e2 x2.hh)) fun w s3 hZ108=>?_;obtain⟨d,e,v3,G3,H3,I3,r3,x3,p3⟩:=hZ108;exact⟨d,al e1 (al e2 e),v3,G3,H3,I3,r3,(x1.trans x2).trans x3,p3⟩
theorem ar {op:Operator}{a b:Expr}{fa fb:DS→Res D}{o:D→D→Res D}{pos:Pos}(hop:DOp X E (binaryOp op) o)(ha:PD X E a fa)(hb:PD X E b fb):PD X E (.BinOp a op b pos) (ae fa fb o):=
 fun pins s σ G H ρ I hs hro ho=>wpAny_BinOp (vB ha hb hop I hs hro ho)
theorem Gc {op:CmpOp}{a b:Expr}{fa fb:DS→Res D}{o:D→D→Res D}{pos:Pos}(hop:DOp X E (compareOp op) o)(ha:PD X E a fa)(hb:PD X E b fb)(hm:behindInMarks op b=false):PD X E (.Compare a [op] [b] pos) (ae fa fb o):=
 fun pins s σ G H ρ I hs hro ho=>wpAny_Compare1 (vB ha hb hop I hs hro ho) hm
noncomputable def f8 (f:DS→Res D):DS→Res Bool:=fun ρ=>(f ρ).bind fun d=>match d with|.bl b=>.ok b|_=>.bad
theorem aY {op:CmpOp}{a b:Expr}{fa fb:DS→Res D}{o:D→D→Res D}{pos:Pos}(hop:DOp X E (compareOp op) o)(ha:PD X E a fa)(hb:PD X E b fb)(hm:behindInMarks op b=false):uG X E (.Compare a [op] [b] pos) (f8 (ae fa fb o)):=by
 intro pins s σ G H ρ I hs hro ho;refine wpAny_isTrue_Compare1 (aO (vB ha hb hop I hs hro ho.fst) fun v s1 h1=>aO h1 fun u s2 h2=>aO h2 fun c s3 hZ109=>?_) hm;obtain⟨d,e,v3,G3,H3,I3,r3,x3,p3⟩:=hZ109;have k:=ho.snd e (Same.refl H);cases d with
 |bl b=>
  unfold Rep at p3;subst p3;cases r3;exact wpAny_truthy_bool ⟨al e rfl,G3,H3,I3,x3⟩
 |_=>exact k.elim
theorem iP {e:Expr}{f:DS→Res D}(h:PD X E e f)(he:∀whole,isTrue e X.env whole=(do let v ←whole;standAt e.pos;holding [v] (truthy v)):=by intro _;rfl):uG X E e (f8 f):=by
 intro pins s σ G H ρ I hs hro ho;refine isTrue_plain (aO (h pins s σ G H ρ I hs hro ho.fst) fun v s1 hZ110=>?_) (he _);obtain⟨d,e,v3,G3,H3,I3,r3,x3,p3⟩:=hZ110;have k:=ho.snd e (Same.refl H);cases d with
 |bl b=>
  unfold Rep at p3;subst p3;cases r3;exact wpAny_truthy_bool ⟨al e rfl,G3,H3,I3,x3⟩
 |_=>exact k.elim
end
theorem rep_int {K:W.Frag}{G:Hp}{i:Int}{v:V}:Rep K G (.int i) v↔v= .int i:=by unfold Rep;exact Iff.rfl
theorem rep_bl {K:W.Frag}{G:Hp}{i:Bool}{v:V}:Rep K G (.bl i) v↔v= .bl i:=by unfold Rep;exact Iff.rfl
theorem rep_non {K:W.Frag}{G:Hp}{v:V}:Rep K G .non v↔v= .non:=by unfold Rep;exact Iff.rfl
theorem rep_str {K:W.Frag}{G:Hp}{i:Str}{v:V}:Rep K G (.str i) v↔v= .str i:=by unfold Rep;exact Iff.rfl
theorem rep_lst {K:W.Frag}{G:Hp}{ds:List D}{v:V}:Rep K G (.lst ds) v↔∃a xs,v= .ref a∧LsS K G a xs∧RepL K G ds xs:=by unfold Rep;exact Iff.rfl
theorem rep_tup {K:W.Frag}{G:Hp}{ds:List D}{v:V}:Rep K G (.tup ds) v↔∃a xs,v= .ref a∧TpS K G a xs∧RepL K G ds xs:=by unfold Rep;exact Iff.rfl
theorem wW {K:W.Frag}{G:Hp}{ns:List Int}{v:V}:Rep K G (.scr ns) v↔∃a,v= .ref a∧gC K G a (ns.map V.int):=by unfold Rep;exact Iff.rfl
theorem GA {K:W.Frag}{G:Hp}{C:Addr}{v:V}:Rep K G (.xc C) v↔∃a,v= .ref a∧G a=some (Ew a (.ref C))∧ExcK K C:=by unfold Rep;exact Iff.rfl
theorem rep_fdc {K:W.Frag}{G:Hp}{ks:List (List bF)}{ds:List D}{v:V}:Rep K G (.fdc ks ds) v↔∃a o kvs,v= .ref a∧G a=some (.frz o (.dT kvs))∧kvs.map (·.1)=ks∧RepL K G ds (kvs.map (·.2)):=by unfold Rep;exact Iff.rfl
theorem rep_dct {K:W.Frag}{G:Hp}{ks:List (List bF)}{ds:List D}{v:V}:Rep K G (.dct ks ds) v↔∃a kvs,v= .ref a∧Rd G a (.dT kvs)∧kvs.map (·.1)=ks∧RepL K G ds (kvs.map (·.2)):=by unfold Rep;exact Iff.rfl
theorem rep_ins {K:W.Frag}{G:Hp}{C:Addr}{ns:List Str}{ds:List D}{v:V}:Rep K G (.ins C ns ds) v↔∃a dx fs,v= .ref a∧G a=some (.ins C dx fs)∧fs.map (·.1)=ns∧RepL K G ds (fs.map (·.2)):=by unfold Rep;exact Iff.rfl
noncomputable def i6 (c:Int→Int→Bool)(g:Int→Int→D):D→D→Res D
 |.int i,.int j=>if c i j=true then .ok (g i j) else .bad
 |_,_=>.bad
section
variable{X:Cx}{E:XK}
theorem qT {f:Value→Value→Sem Value}{C:Int→Int→Prop}{g:Int→Int→V}{c:Int→Int→Bool}{gD:Int→Int→D}(ho:sI X f (rI C g))(hc:∀i j,c i j=true→C i j)(hg:∀i j G,Rep X.K G (gD i j) (g i j)):DOp X E f (i6 c gD):=
 DOp.of ho fun G H x y dx dy hs rx ry ok=>by
  unfold i6 at ok ⊢;split at ok
  ·rename_i i j;rw[rep_int]at rx ry;subst rx ry;by_cases h:c i j=true
   ·rw[if_pos h];exact(HK i j rfl rfl (hc i j h) _ G rfl (.refl hs) (hg i j G))
   ·rw[if_neg h]at ok;exact ok.elim
  ·exact ok.elim
theorem jj {f:Value→Value→Sem Value}{g:Int→Int→V}{gD:Int→Int→D}(ho:sI X f (Ep g))(hg:∀i j G,Rep X.K G (gD i j) (g i j)):DOp X E f (i6 (fun _ _=>true) gD):=
 DOp.of ho fun G H x y dx dy hs rx ry ok=>by
  unfold i6 at ok ⊢;split at ok
  ·rename_i i j;rw[rep_int]at rx ry;subst rx ry;exact(HL i j rfl rfl _ G rfl (.refl hs) (hg i j G))
  ·exact ok.elim
instance (i j:Int):Decidable (CMul i j):=by unfold CMul;infer_instance
instance (i j:Int):Decidable (yQ i j):=by unfold yQ;infer_instance
noncomputable def yV:D→D→Res D:=i6 (fun _ _=>true) fun i j=>.int (i+j)
noncomputable def ux:D→D→Res D:=i6 (fun _ _=>true) fun i j=>.int (i-j)
noncomputable def yg:D→D→Res D:=i6 (fun i j=>decide (CMul i j)) fun i j=>.int (i*j)
noncomputable def tE:D→D→Res D:=i6 (fun i j=>decide (yQ i j)) fun i j=>.int (i / j)
noncomputable def kJ:D→D→Res D:=i6 (fun _ j=>decide (0<j)) fun i j=>.int (i % j)
noncomputable def wv:D→D→Res D:=i6 (fun _ _=>true) fun i j=>.bl (decide (i<j))
noncomputable def uI:D→D→Res D:=i6 (fun _ _=>true) fun i j=>.bl (decide (i≤j))
noncomputable def IV:D→D→Res D:=i6 (fun _ _=>true) fun i j=>.bl (decide (j<i))
noncomputable def JU:D→D→Res D:=i6 (fun _ _=>true) fun i j=>.bl (decide (j≤i))
theorem do_add:DOp X E (binaryOp .Add) yV:=jj FW fun _ _ _=>rep_int.mpr rfl
theorem og:DOp X E (binaryOp .Sub) ux:=jj Ga fun _ _ _=>rep_int.mpr rfl
theorem do_mul:DOp X E (binaryOp .Mult) yg:=qT FZ (fun _ _ h=>of_decide_eq_true h) fun _ _ _=>rep_int.mpr rfl
theorem BM:DOp X E (binaryOp .FloorDiv) tE:=qT CQ (fun _ _ h=>of_decide_eq_true h) fun _ _ _=>rep_int.mpr rfl
theorem ky:DOp X E (binaryOp .Mod) kJ:=qT FY (fun _ _ h=>of_decide_eq_true h) fun _ _ _=>rep_int.mpr rfl
theorem mG:DOp X E (compareOp .Lt) wv:=jj Io fun _ _ _=>rep_bl.mpr rfl
theorem iZ:DOp X E (compareOp .LtE) uI:=jj Im fun _ _ _=>rep_bl.mpr rfl
theorem DY:DOp X E (compareOp .Gt) IV:=jj Il fun _ _ _=>rep_bl.mpr rfl
noncomputable def FS:D→Res D
 |.int i=>.ok (.int (-i))
 |_=>.bad
theorem vA {a:Expr}{fa:DS→Res D}{pos:Pos}(ha:PD X E a fa):PD X E (.UnaryOp .USub a pos) (fun ρ=>(fa ρ).bind FS):=by
 intro pins s σ G H ρ I hs hro ho;refine UnaryOp_ (aO (ha pins s σ G H ρ I hs hro ho.fst) fun v s1 hZ111=>?_);obtain⟨d1,e1,v1,G1,H1,I1,r1,x1,p1⟩:=hZ111;have k:=ho.snd e1 x1.hh;cases d1 with
 |int i=>
  rw[rep_int]at p1;subst p1;exact aO (GN pins s1 σ H1 (.int i) v (fun v' H'=>H'=H1∧v'= .int (-i)) I1 r1 (gW i rfl rfl rfl)) fun w s2 hZ112=>by
   obtain⟨v2,H2,I2,r2,h1,h2⟩:=hZ112;subst h1 h2;exact⟨.int (-i),al e1 rfl,_,G1,_,I2,r2,x1,rep_int.mpr rfl⟩
 |_=>exact k.elim
noncomputable def IW (d:D):Bool:=match d with|.non=>true|_=>false
noncomputable def Jp (d e:D):Res D:=match e with|.non=>.ok (.bl (IW d))|_=>.bad
noncomputable def Ij (d e:D):Res D:=match e with|.non=>.ok (.bl (!IW d))|_=>.bad
theorem Aq {a:Expr}{pos:Pos}{f:DS→Res Bool}(ha:uG X E a f):PDW X E (.BoolOp .And [a] pos) f:=by
 intro wh pins s σ G H ρ I hs hro ho;refine isTrue_and (aO (ha pins s σ G H ρ I hs hro ho) fun c s1 e=>?_);cases c with
 |true=>exact isTrue_and_nil e
 |false=>exact e
theorem nJ {a:Expr}{pos:Pos}{f:DS→Res Bool}(ha:uG X E a f):PDW X E (.BoolOp .Or [a] pos) f:=by
 intro wh pins s σ G H ρ I hs hro ho;refine isTrue_or (aO (ha pins s σ G H ρ I hs hro ho) fun c s1 e=>?_);cases c with
 |false=>exact isTrue_or_nil e
 |true=>exact e
noncomputable def By (f g:DS→Res Bool):DS→Res Bool:=fun ρ=>(f ρ).bind fun b=>if b=true then g ρ else .ok false
noncomputable def GY (f g:DS→Res Bool):DS→Res Bool:=fun ρ=>(f ρ).bind fun b=>if b=true then .ok true else g ρ
theorem CZ {a b:Expr}{rest:List Expr}{pos:Pos}{f g:DS→Res Bool}(ha:uG X E a f)(hb:PDW X E (.BoolOp .And (b::rest) pos) g):PDW X E (.BoolOp .And (a::b::rest) pos) (By f g):=by
 intro wh pins s σ G H ρ I hs hro ho;refine isTrue_and (aO (ha pins s σ G H ρ I hs hro ho.fst) fun c s1 hZ113=>?_);obtain⟨e,G1,H1,I1,x1⟩:=hZ113;cases c with
 |true=>exact aO (hb wh pins s1 σ G1 H1 ρ I1 x1.gh (hro.mono x1.gg) (ho.snd e x1.hh)) fun c2 s2 hZ114=>(by obtain⟨e2,G2,H2,I2,x2⟩:=hZ114;exact⟨al e (by rw[if_pos rfl];exact e2),G2,H2,I2,x1.trans x2⟩)
 |false=>exact⟨al e rfl,G1,H1,I1,x1⟩
theorem rR {a b:Expr}{rest:List Expr}{pos:Pos}{f g:DS→Res Bool}(ha:uG X E a f)(hb:PDW X E (.BoolOp .Or (b::rest) pos) g):PDW X E (.BoolOp .Or (a::b::rest) pos) (GY f g):=by
 intro wh pins s σ G H ρ I hs hro ho;refine isTrue_or (aO (ha pins s σ G H ρ I hs hro ho.fst) fun c s1 hZ115=>?_);obtain⟨e,G1,H1,I1,x1⟩:=hZ115;cases c with
 |false=>exact aO (hb wh pins s1 σ G1 H1 ρ I1 x1.gh (hro.mono x1.gg) (ho.snd e x1.hh)) fun c2 s2 hZ116=>(by obtain⟨e2,G2,H2,I2,x2⟩:=hZ116;exact⟨al e (by rw[if_neg Bool.false_ne_true];exact e2),G2,H2,I2,x1.trans x2⟩)
 |true=>exact⟨al e rfl,G1,H1,I1,x1⟩
noncomputable def i7 (f:DS→Res Bool):DS→Res Bool:=fun ρ=>(f ρ).bind fun b=>.ok (!b)
theorem bZ {a:Expr}{pos:Pos}{f:DS→Res Bool}(ha:uG X E a f):uG X E (.UnaryOp .Not a pos) (i7 f):=by
 intro pins s σ G H ρ I hs hro ho;exact isTrue_not (aO (ha pins s σ G H ρ I hs hro ho.fst) fun c s1 hZ117=>(by obtain⟨e,G1,H1,I1,x1⟩:=hZ117;exact⟨al e rfl,G1,H1,I1,x1⟩))
noncomputable def Bz (f g:DS→Res D):DS→Res D:=fun ρ=>(f ρ).bind fun d=>match d with|.bl true=>g ρ|.bl false=>.ok (.bl false)|_=>.bad
noncomputable def FU (f:DS→Res D):DS→Res D:=fun ρ=>(f ρ).bind fun d=>match d with|.bl b=>.ok (.bl (!b))|_=>.bad
theorem Al {op}{a:Expr}{pos:Pos}{f:DS→Res D}(h:PD X E a f):PD X E (.BoolOp op [a] pos) f:=fun pins s σ G H ρ I hs hro ho=>BoolOp_one (h pins s σ G H ρ I hs hro ho)
theorem Ah {a b:Expr}{rest:List Expr}{pos:Pos}{f g:DS→Res D}(ha:PD X E a f)(hb:PD X E (.BoolOp .And (b::rest) pos) g):PD X E (.BoolOp .And (a::b::rest) pos) (Bz f g):=by
 intro pins s σ G H ρ I hs hro ho;refine BoolOp_and (aO (ha pins s σ G H ρ I hs hro ho.fst) fun v s1 hZ118=>?_);obtain⟨d1,e1,v1,G1,H1,I1,r1,x1,p1⟩:=hZ118;have k:=ho.snd e1 x1.hh;cases d1 with
 |bl c=>
  rw[rep_bl]at p1;subst p1;cases r1;refine wpAny_truthy_bool ?_;cases c with
  |true=>exact aO (hb pins s1 σ G1 H1 ρ I1 x1.gh (hro.mono x1.gg) k) fun w s2 hZ119=>(by obtain⟨d2,e2,v2,G2,H2,I2,r2,x2,p2⟩:=hZ119;exact⟨d2,al e1 e2,v2,G2,H2,I2,r2,x1.trans x2,p2⟩)
  |false=>exact⟨_,al e1 rfl,.bl false,G1,H1,I1,rfl,x1,rep_bl.mpr rfl⟩
 |_=>exact k.elim
theorem Gf {a:Expr}{pos:Pos}{f:DS→Res D}(ha:PD X E a f):PD X E (.UnaryOp .Not a pos) (FU f):=by
 intro pins s σ G H ρ I hs hro ho;refine UnaryOp_ (aO (ha pins s σ G H ρ I hs hro ho.fst) fun v s1 hZ120=>?_);obtain⟨d1,e1,v1,G1,H1,I1,r1,x1,p1⟩:=hZ120;have k:=ho.snd e1 x1.hh;cases d1 with
 |bl c=>
  rw[rep_bl]at p1;subst p1;cases r1;exact not_of (wpAny_truthy_bool ⟨_,al e1 rfl,.bl (!c),G1,H1,I1,rfl,x1,rep_bl.mpr rfl⟩)
 |_=>exact k.elim
noncomputable def iH (fa fb fc:DS→Res D)(o o':D→D→Res D):DS→Res Bool:=fun ρ=>(fa ρ).bind fun a=>(fb ρ).bind fun b=>(o a b).bind fun r=>match r with|.bl true=>(fc ρ).bind fun c=>(o' b c).bind fun q=>(match q with|.bl k=>.ok k|_=>.bad)|.bl false=>.ok false|_=>.bad
noncomputable def aS (n:Nat):Bool:=decide (n≤100000)
theorem bP {n:Nat}(h:aS n=true):n≤sizeLine:=le_trans (of_decide_eq_true h) (by decide)
noncomputable def gJ (f:DS→Res (List D)):DS→Res D:=fun ρ=>(f ρ).bind fun ds=>if aS ds.length=true then .ok (.lst ds) else .bad
noncomputable def f7 (f:DS→Res (List D)):DS→Res D:=fun ρ=>(f ρ).bind fun ds=>if aS ds.length=true then .ok (.tup ds) else .bad
theorem oZ {es:List Expr}{pos:Pos}{f:DS→Res (List D)}(h:mW X E es f):PD X E (.List es pos) (gJ f):=by
 intro pins s σ G H ρ I hs hro ho;refine aO (At (jC h) pins s σ H (fun v H'=>∃d G',gJ f ρ= .ok d∧Ext G H G' H'∧Rep X.K G' d v) I ?_) fun u s' hZ121=>(by obtain⟨v,H',I',r,d,G',e,x,rp⟩:=hZ121;exact⟨d,e,v,G',H',I',r,x,rp⟩);refine⟨G,ρ,hs,hro,ho.fst,fun ds e vs G1 H1 x1 r1=>?_⟩;have k:=ho.snd e x1.hh;by_cases hl:aS ds.length=true
 ·refine⟨by rw[←r1.length];exact bP hl,fun p hp=>(dR (.lst ds) (bo G1 p (.lst vs)) (al e (if_pos hl)) (x1.trans (.new x1.gh hp _)) (rep_lst.mpr (dR p vs rfl (.of au) (r1.mono (Ext.new x1.gh hp _).gg))))⟩
 ·rw[if_neg hl]at k;exact k.elim
theorem d6 {es:List Expr}{x1}{pos:Pos}{f:DS→Res (List D)}(h:mW X E es f):PD X E (.Tuple es x1 pos) (f7 f):=by
 intro pins s σ G H ρ I hs hro ho;refine aO (Ax (jC h) pins s σ H (fun v H'=>∃d G',f7 f ρ= .ok d∧Ext G H G' H'∧Rep X.K G' d v) I ?_) fun u s' hZ122=>(by obtain⟨v,H',I',r,d,G',e,x,rp⟩:=hZ122;exact⟨d,e,v,G',H',I',r,x,rp⟩);refine⟨G,ρ,hs,hro,ho.fst,fun ds e vs G1 H1 x1 r1=>?_⟩;have k:=ho.snd e x1.hh;by_cases hl:aS ds.length=true
 ·refine⟨by rw[←r1.length];exact bP hl,fun p hp=>(dR (.tup ds) (bo G1 p (.tup vs)) (al e (if_pos hl)) (x1.trans (.new x1.gh hp _)) (rep_tup.mpr (dR p vs rfl (.of au) (r1.mono (Ext.new x1.gh hp _).gg))))⟩
 ·rw[if_neg hl]at k;exact k.elim
end
section
variable{X:Cx}{E:XK}
theorem Gg {e:Expr}{r:R2}{fa fb:DS→Res D}{o:D→D→Res D}(he:PE X e (JS r (tD X.K E fa) (tD X.K E fb)))
  (h:∀(G H:Hp) (x y:V) (dx dy:D) (Q:VK),Same G H→Rep X.K G dx x→Rep X.K G dy y→OkR E H (o dx dy)→(∀d v' G' H',o dx dy= .ok d→Ext G H G' H'→Rep X.K G' d v'→Q v' H')→r x y H Q):PD X E e (ae fa fb o):=by
 intro pins s σ G H ρ I hs hro ho;refine aO (he pins s σ H (fun v H'=>∃d G',ae fa fb o ρ= .ok d∧Ext G H G' H'∧Rep X.K G' d v) I ?_) fun u s' hZ123=>(by obtain⟨v,H',I',r',d,G',e,x,rp⟩:=hZ123;exact⟨d,e,v,G',H',I',r',x,rp⟩);refine⟨G,ρ,hs,hro,ho.fst,fun d1 e1 v1 G1 H1 x1 p1=>⟨G1,ρ,x1.gh,hro.mono x1.gg,(ho.snd e1 x1.hh).fst,fun d2 e2 v2 G2 H2 x2 p2=>?_⟩⟩;exact h G2 H2 v1 v2 d1 d2 _ x2.gh (p1.mono x2.gg) p2 ((ho.snd e1 x1.hh).snd e2 x2.hh) fun d v' G' H' ed xx rp=>(dR d G' (al e1 (al e2 ed)) ((x1.trans x2).trans xx) rp)
theorem RepL.atI {K:W.Frag}{G:Hp}{ds:List D}{vs:List V}{i:Int}{d:D}(h:RepL K G ds vs)(e:atI ds i=some d):∃v,L2.atI vs i=some v∧Rep K G d v:=by
 unfold L2.atI at e ⊢;rw[←h.length];cases q:tK ds.length i with
 |none=>rw[q]at e;cases e
 |some j=>
  rw[q]at e;exact h.get (by simpa using e)
noncomputable def aL:D→D→Res D
 |.lst l,.int i=>match L2.atI l i with|some d=>.ok d|none=>.bad
 |.tup l,.int i=>match L2.atI l i with|some d=>.ok d|none=>.bad
 |.scr ns,.int i=>match L2.atI ns i with|some n=>.ok (.int n)|none=>.bad
 |.str z,.int i=>match L2.atI z.cps.toList i with|some c=>if aS z.length=true then .ok (.str ⟨#[c]⟩) else .bad|none=>.bad
 |_,_=>.bad
theorem BA {α β:Type}{f:α→β}{xs:List α}{i:Int}{a:α}(h:L2.atI xs i=some a):L2.atI (xs.map f) i=some (f a):=by
 unfold L2.atI at h ⊢;rw[length_map];cases q:tK xs.length i with
 |none=>rw[q]at h;cases h
 |some j=>
  rw[q]at h;show (xs.map f)[j]?=some (f a);have h':xs[j]?=some a:=h;rw[getElem?_map,h'];rfl
theorem aw {a b:Expr}{pos:Pos}{fa fb:DS→Res D}(ha:PD X E a fa)(hb:PD X E b fb)(hp:qN b:=by intro _ _;rfl):PD X E (.Subscript a b pos) (ae fa fb aL):=by
 refine Gg (Em FA (fS ha) (fS hb) hp) fun G H x y dx dy Q hs rx ry ok k=>?_;unfold aL at ok k;split at ok
 ·rename_i l i;rw[rep_lst]at rx;rw[rep_int]at ry;refine bA (rx) fun p xs hS55 sq rl=>?_;subst hS55;subst ry;dsimp only at ok k;cases q:L2.atI l i with
  |none=>rw[q]at ok;exact ok.elim
  |some d=>
   obtain⟨v,hv,rv⟩:=rl.atI q;rw[q]at k;exact .inl (Cy p xs i v rfl rfl (hs.seq sq.sq) hv (k d v G H rfl (.refl hs) rv))
 ·rename_i l i;rw[rep_tup]at rx;rw[rep_int]at ry;refine bA (rx) fun p xs hS56 sq rl=>?_;subst hS56;subst ry;dsimp only at ok k;cases q:L2.atI l i with
  |none=>rw[q]at ok;exact ok.elim
  |some d=>
   obtain⟨v,hv,rv⟩:=rl.atI q;rw[q]at k;exact .inr (.inl (Cy p xs i v rfl rfl (hs.seqT sq) hv (k d v G H rfl (.refl hs) rv)))
 ·rename_i ns i;rw[wW]at rx;rw[rep_int]at ry;obtain⟨p,rfl,sq⟩:=rx;subst ry;dsimp only at ok k;cases q:L2.atI ns i with
  |none=>rw[q]at ok;exact ok.elim
  |some n=>
   rw[q]at k;exact .inl (Cy p _ i (.int n) rfl rfl (hs.seq sq) (BA q) (k (.int n) (.int n) G H rfl (.refl hs) (rep_int.mpr rfl)))
 ·rename_i z i;rw[rep_str]at rx;rw[rep_int]at ry;subst rx ry;dsimp only at ok k;cases q:L2.atI z.cps.toList i with
  |none=>rw[q]at ok;exact ok.elim
  |some c=>
   rw[q]at k ok;dsimp only at k ok;by_cases hz:aS z.length=true
   ·rw[if_pos hz]at k;exact .inr (.inr (nC z i c rfl rfl (bP hz) q (k _ _ G H rfl (.refl hs) (rep_str.mpr rfl))))
   ·rw[if_neg hz]at ok;exact ok.elim
 ·exact ok.elim
noncomputable def Bo (K:W.Frag)(E:XK)(r:List V→Hp→VK→Prop)(g:List D→Res D):Prop:=
 ∀(G H:Hp) (vs:List V) (ds:List D) (Q:VK),Same G H→RepL K G ds vs→OkR E H (g ds)→(∀d v' G' H',g ds= .ok d→Ext G H G' H'→Rep K G' d v'→Q v' H')→r vs H Q
noncomputable def bL (fs:DS→Res (List D))(g:List D→Res D):DS→Res D:=fun ρ=>(fs ρ).bind g
theorem An {e:Expr}{r:List V→Hp→VK→Prop}{fs:DS→Res (List D)}{g:List D→Res D}(he:PE X e (JE r (tDA X.K E fs)))(h:Bo X.K E r g):PD X E e (bL fs g):=by
 intro pins s σ G H ρ I hs hro ho;refine aO (he pins s σ H (fun v H'=>∃d G',bL fs g ρ= .ok d∧Ext G H G' H'∧Rep X.K G' d v) I ?_) fun u s' hZ124=>(by obtain⟨v,H',I',r',d,G',e,x,rp⟩:=hZ124;exact⟨d,e,v,G',H',I',r',x,rp⟩);refine⟨G,ρ,hs,hro,ho.fst,fun ds e1 vs G1 H1 x1 p1=>?_⟩;exact h G1 H1 vs ds _ x1.gh p1 (ho.snd e1 x1.hh) fun d v' G' H' ed xx rp=>(dR d G' (al e1 ed) (x1.trans xx) rp)
theorem fR {x:Str}{p pos:Pos}{e:Expr}{es:List Expr}{id:String}{r:List V→Hp→VK→Prop}{fs:DS→Res (List D)}{g:List D→Res D}(hc:eD X (.builtin id) r)(h:Bo X.K E r g)(hg:Gl X x)(hm:X.mg x=none)(hv:bootBuiltins x=some (.builtin id))(ha:mW X E (e::es) fs)
  (hn:x≠ "__name__" :=by decide) (hdb:(x==("__debug__" :Str))=false:=by decide)
  (he:starEach (e::es) X.env=(false,eval e X.env)::starEach es X.env:=by rfl) (hpl:(backTo pos (starEach es X.env)).any (·.1)=false:=by rfl):PD X E (.Call (.Name x p) (e::es) [] pos) (bL fs g):=
 An (t_ hc hg hm hv (jC ha) hn hdb he hpl) h
theorem mq {x:Str}{p pos:Pos}{e:Expr}{es:List Expr}{T:String}{r:List V→Hp→VK→Prop}{fs:DS→Res (List D)}{g:List D→Res D}(hc:eD X (.type T) r)(h:Bo X.K E r g)(hg:Gl X x)(hm:X.mg x=none)(hv:bootBuiltins x=some (.type T))(ha:mW X E (e::es) fs)
  (hn:x≠ "__name__" :=by decide) (hdb:(x==("__debug__" :Str))=false:=by decide)
  (he:starEach (e::es) X.env=(false,eval e X.env)::starEach es X.env:=by rfl) (hpl:(backTo pos (starEach es X.env)).any (·.1)=false:=by rfl):PD X E (.Call (.Name x p) (e::es) [] pos) (bL fs g):=
 An (fg hc hg hm hv (jC ha) hn hdb he hpl) h
noncomputable def bq:List D→Res D
 | [.lst l]=>.ok (.int l.length)
 | [.tup l]=>.ok (.int l.length)
 | [.scr ns]=>.ok (.int ns.length)
 |_=>.bad
theorem EI {K:W.Frag}:Bo K E (fun xs H Q=>∃p ys,xs=[.ref p]∧(gC K H p ys∨nk K H p ys)∧Q (.int ys.length) H) bq:=by
 intro G H vs ds Q hs rl ok k;unfold bq at ok k;split at ok
 ·obtain⟨v,r,rfl,t,r0⟩:=rl.inv;rw[r0.inv0];rw[rep_lst]at t;obtain⟨p,xs,rfl,sq,t⟩:=t;exact⟨p,xs,rfl,.inl (hs.seq sq.sq),k _ _ G H rfl (.refl hs) (by rw[t.length];exact rep_int.mpr rfl)⟩
 ·obtain⟨v,r,rfl,t,r0⟩:=rl.inv;rw[r0.inv0];rw[rep_tup]at t;obtain⟨p,xs,rfl,sq,t⟩:=t;exact⟨p,xs,rfl,.inr (hs.seqT sq),k _ _ G H rfl (.refl hs) (by rw[t.length];exact rep_int.mpr rfl)⟩
 ·obtain⟨v,r,rfl,t,r0⟩:=rl.inv;rw[r0.inv0];rw[wW]at t;obtain⟨p,rfl,sq⟩:=t;exact⟨p,_,rfl,.inl (hs.seq sq),k _ _ G H rfl (.refl hs) (by rw[length_map];exact rep_int.mpr rfl)⟩
 ·exact ok.elim
noncomputable def Ih:List D→Res D
 | [.int i,.int j]=>.ok (.int (min i j))
 |_=>.bad
noncomputable def qw:List D→Res D
 | [.int i,.int j]=>.ok (.int (max i j))
 |_=>.bad
theorem FO (i j:Int):(if j>i then j else i)=max i j:=by omega
theorem BJ {K:W.Frag}:Bo K E (fun xs H Q=>∃i j,xs=[.int i,.int j]∧Q (.int (if j>i then j else i)) H) qw:=by
 intro G H vs ds Q hs rl ok k;unfold qw at ok k;split at ok
 ·refine cps fun PP kP=>?_;refine bA (rl.inv) fun v r hS57 rx r0=>?_;subst hS57;refine bA (r0.inv) fun v2 r2 hS58 ry r1=>?_;subst hS58;refine kP ?_;clear kP PP;rw[r1.inv0];rw[rep_int]at rx ry;subst rx ry;refine(l8 _ _ rfl ?_);rw[FO];exact k _ _ G H rfl (.refl hs) (rep_int.mpr rfl)
 ·exact ok.elim
noncomputable def dS:List D→Res D
 | [.lst l]=>.ok (.lst l)
 | [.tup l]=>.ok (.lst l)
 |_=>.bad
noncomputable def pB:List D→Res D
 | [.lst l]=>.ok (.tup l)
 | [.tup l]=>.ok (.tup l)
 |_=>.bad
theorem wf {K:W.Frag}:Bo K E (fun xs H Q=>∃p ys,xs=[.ref p]∧(gC K H p ys∨nk K H p ys)∧∀l,H l=none→Q (.ref l) (bo H l (.lst ys))) dS:=by
 intro G H vs ds Q hs rl ok k;unfold dS at ok k;split at ok
 ·obtain⟨v,r,rfl,t,r0⟩:=rl.inv;rw[r0.inv0];rw[rep_lst]at t;obtain⟨p,xs,rfl,sq,t⟩:=t;exact⟨p,xs,rfl,.inl (hs.seq sq.sq),fun l hl=>k _ _ _ _ rfl (.new hs hl _) (rep_lst.mpr ⟨l,xs,rfl,.of au,t.mono (Ext.new hs hl _).gg⟩)⟩
 ·obtain⟨v,r,rfl,t,r0⟩:=rl.inv;rw[r0.inv0];rw[rep_tup]at t;obtain⟨p,xs,rfl,sq,t⟩:=t;exact⟨p,xs,rfl,.inr (hs.seqT sq),fun l hl=>k _ _ _ _ rfl (.new hs hl _) (rep_lst.mpr ⟨l,xs,rfl,.of au,t.mono (Ext.new hs hl _).gg⟩)⟩
 ·exact ok.elim
theorem za {K:W.Frag}:Bo K E (fun xs H Q=>∃p ys,xs=[.ref p]∧((gC K H p ys∧∀l,H l=none→Q (.ref l) (bo H l (.tup ys)))∨(nk K H p ys∧Q (.ref p) H))) pB:=by
 intro G H vs ds Q hs rl ok k;unfold pB at ok k;split at ok
 ·obtain⟨v,r,rfl,t,r0⟩:=rl.inv;rw[r0.inv0];rw[rep_lst]at t;obtain⟨p,xs,rfl,sq,t⟩:=t;exact⟨p,xs,rfl,.inl ⟨hs.seq sq.sq,fun l hl=>k _ _ _ _ rfl (.new hs hl _) (rep_tup.mpr ⟨l,xs,rfl,.of au,t.mono (Ext.new hs hl _).gg⟩)⟩⟩
 ·obtain⟨v,r,rfl,t,r0⟩:=rl.inv;rw[r0.inv0];have rx':=t;rw[rep_tup]at t;obtain⟨p,xs,rfl,sq,t⟩:=t;exact⟨p,xs,rfl,.inr ⟨hs.seqT sq,k _ _ G H rfl (.refl hs) rx'⟩⟩
 ·exact ok.elim
inductive pureSp (K:W.Frag)(m:List D→Res D)(vs:List V)(H:Hp)(Q:VK)(E:XK):Prop
 |mk (ds:List D) (G:Hp) (s:Same G H) (r:RepL K G ds vs) (o:OkR E H (m ds)) (k:∀d,m ds= .ok d→∀v G' H',Ext G H G' H'→Rep K G' d v→Q v H')
noncomputable def mH (C:Addr)(m:Str):D→Bool
 |.ins C' ns _=>C'==C&&!ns.contains m
 |_=>false
noncomputable def fM (C:Addr)(m:Str)(fo:DS→Res D)(g:List D→Res D):DS→Res D:=fun ρ=>(fo ρ).bind fun o=>if mH C m o=true then g [o] else .bad
theorem oT {fs:List (Str×V)}{m:Str}(h:(fs.map (·.1)).contains m=false):fs.lookup m=none:=by
 induction fs with
 |nil=>rfl
 |cons p r ih=>
  rw[map_cons,List.contains_cons,Bool.or_eq_false_iff]at h;rw[lookup_cons];have:(m==p.1)=false:=h.1;rw[this];exact ih h.2
theorem Ak {pl:Sem Bool}{CX:sH}{k:Nat}{f C:Addr}{fd:FuncData}{ps:List Str}{g:List D→Res D}{m:Str}{apos pos:Pos}{o:Expr}{fo:DS→Res D}(hoo:PD X E o fo)(c:Cls X.K C)(hm:Meth X.K C m f)(F:FnOk X.prog X.w X.K X.mg X.base CX k f fd ps (pureSp X.K g))(hr:Room k X.A)(hb:Binds X.K fd ps [])(hx:cQ CX X E)
  (hpe:PE X (.Call (.Attribute o m apos) [] [] pos) (Et C m (pureSp X.K g) [] E (tD X.K E fo) DJ)):PD X E (.Call (.Attribute o m apos) [] [] pos) (fM C m fo g):=by
 intro pins s σ G H ρ I hs hro ho;refine aO (hpe pins s σ H (fun v H'=>∃d G',fM C m fo g ρ= .ok d∧Ext G H G' H'∧Rep X.K G' d v) I ?_) fun u s' hZ125=>(by obtain⟨v,H',I',r',d,G',e,x,rp⟩:=hZ125;exact⟨d,e,v,G',H',I',r',x,rp⟩);refine⟨G,ρ,hs,hro,ho.fst,fun dO e1 v G1 H1 x1 p1=>?_⟩;have kk:=ho.snd e1 x1.hh;by_cases hi:mH C m dO=true
 ·rw[if_pos hi]at kk;cases dO with
  |ins C' ns l=>
   have hi':=hi;unfold mH at hi';rw[and_eq_true,beq_iff_eq,not_eq_true']at hi';obtain⟨rfl,hn⟩:=hi';have p1':=p1;rw[rep_ins]at p1;refine ja (p1) fun a dx fs hS59 ha hns _=>?_;subst hS59;refine(jb a dx fs rfl (x1.gh _ _ ha) (oT (by rw[hns];exact hn)) ?_);exact⟨[.ins C' ns l],G1,x1.gh,.cons p1' .nil,kk,fun d ed v G' H' xx rp=>(dR d G' (al e1 (by rw[if_pos hi];exact ed)) (x1.trans xx) rp)⟩
  |_=>cases hi
 ·rw[if_neg hi]at kk;exact kk.elim
noncomputable def tJ:List Str→List D→Str→Option D
 |n::ns,d::ds,f=>if n=f then some d else tJ ns ds f
 |_,_,_=>none
noncomputable def ll (C:Addr)(f:Str):D→Res D
 |.ins C' ns ds=>if C'=C then (match tJ ns ds f with|some d=>.ok d|none=>.bad) else .bad
 |_=>.bad
theorem mM {K:W.Frag}{G:Hp}{f:Str}{d:D}:∀{fs:List (Str×V)} {ds:List D},RepL K G ds (fs.map (·.2))→tJ (fs.map (·.1)) ds f=some d→∃v,fs.lookup f=some v∧Rep K G d v
 | [],ds,_,h=>by cases ds <;> cases h
 |(n,v)::r,[],_,h=>by cases h
 |(n,v)::r,e::ds,hr,h=>by
  refine bA (hr.inv) fun v' r' q a b=>?_;rw[map_cons]at q;cases q;rw[map_cons]at h;unfold tJ at h;rw[lookup_cons];by_cases hn:n=f
  ·subst hn;rw[if_pos rfl]at h;cases h;rw[show (n==n)=true by simp];exact⟨v,rfl,a⟩
  ·rw[if_neg hn]at h;rw[show (f==n)=false by simpa using Ne.symm hn];exact mM b h
theorem Ai {C:Addr}{o:Expr}{f:Str}{pos:Pos}{fo:DS→Res D}(ho:PD X E o fo)(c:Cls X.K C)(n:NoAttr X.K C f)(hb:attributeBase o f X.env (eval o X.env)=eval o X.env:=by rfl):PD X E (.Attribute o f pos) (fun ρ=>(fo ρ).bind (ll C f)):=by
 intro pins s σ G H ρ I hs hro hok;refine aO (Gj (fS ho) hb pins s σ H (fun v H'=>∃d G',((fo ρ).bind (ll C f))= .ok d∧Ext G H G' H'∧Rep X.K G' d v) I ?_) fun u s' hZ126=>(by obtain⟨v,H',I',r',d,G',e,x,rp⟩:=hZ126;exact⟨d,e,v,G',H',I',r',x,rp⟩);refine⟨G,ρ,hs,hro,hok.fst,fun dO e1 v G1 H1 x1 p1=>?_⟩;have kk:=hok.snd e1 x1.hh;cases dO with
 |ins C' ns l=>
  unfold ll at kk;dsimp only at kk;by_cases hc:C'=C
  ·subst hc;rw[if_pos rfl]at kk;rw[rep_ins]at p1;refine ja (p1) fun a dx fs hS60 ha hns rl=>?_;subst hS60;subst hns;cases q:tJ (fs.map (·.1)) l f with
   |none=>rw[q]at kk;exact kk.elim
   |some d=>
    obtain⟨v,hv,rv⟩:=mM rl q;exact⟨a,C',dx,fs,v,rfl,x1.gh _ _ ha,c,n,hv,d,G1,al e1 (by unfold ll;dsimp only;rw[if_pos rfl,q]),x1,rv⟩
  ·rw[if_neg hc]at kk;exact kk.elim
 |_=>exact kk.elim
theorem ff {op op':CmpOp}{a b c:Expr}{pos:Pos}{fa fb fc:DS→Res D}{o o':D→D→Res D}(ho:DOp X E (compareOp op) o)(ho':DOp X E (compareOp op') o')(ha:PD X E a fa)(hb:PD X E b fb)(hc:PD X E c fc)
  (hm:lastMarks [op,op'] [b,c]=false:=by with_unfolding_all rfl):uG X E (.Compare a [op,op'] [b,c] pos) (iH fa fb fc o o'):=by
 intro p s σ G H ρ I hs hro hok;refine isTrue_chain (aO (ha p s σ G H ρ I hs hro hok.fst) fun v s1 ⟨d1,e1,v1,G1,H1,I1,r1,x1,p1⟩=>test_link (aO (hb p s1 σ G1 H1 ρ I1 x1.gh (hro.mono x1.gg) (hok.snd e1 x1.hh).fst) fun u s2 hZ128=>?_)) hm;obtain⟨d2,e2,v2,G2,H2,I2,r2,x2,p2⟩:=hZ128;have k2:=(hok.snd e1 x1.hh).snd e2 x2.hh;refine aO (ho p s2 σ G2 H2 v1 v2 d1 d2 v u I2 x2.gh (p1.mono x2.gg) p2 r1 r2 k2.fst) fun d s3 hZ129=>?_;obtain⟨d3,e3,v3,G3,H3,I3,r3,x3,p3⟩:=hZ129;have k3:=k2.snd e3 x3.hh;cases d3 with
 |bl k=>
  rw[rep_bl]at p3;subst p3;cases r3;refine wpAny_truthy_bool ?_;cases k with
  |false=>exact ite_ff ⟨al e1 (al e2 (al e3 rfl)),G3,H3,I3,(x1.trans x2).trans x3⟩
  |true=>
   refine ite_tt (test_last (aO (hc p s3 σ G3 H3 ρ I3 x3.gh (hro.mono ((x1.gg.trans x2.gg).trans x3.gg)) k3.fst) fun w' s4 hZ130=>?_));obtain⟨d4,e4,v4,G4,H4,I4,r4,x4,p4⟩:=hZ130;have k4:=k3.snd e4 x4.hh;refine aO (ho' p s4 σ G4 H4 v2 v4 d2 d4 u w' I4 x4.gh (p2.mono (x3.gg.trans x4.gg)) p4 r2 r4 k4.fst) fun d' s5 hZ131=>?_;obtain⟨d5,e5,v5,G5,H5,I5,r5,x5,p5⟩:=hZ131;have k5:=k4.snd e5 x5.hh;cases d5 with
   |bl k=>
    rw[rep_bl]at p5;subst p5;cases r5;exact wpAny_truthy_bool ⟨al e1 (al e2 (al e3 (al e4 (al e5 rfl)))),G5,H5,I5,(((x1.trans x2).trans x3).trans x4).trans x5⟩
   |_=>exact k5.elim
 |_=>exact k3.elim
end
mutual
noncomputable def bW:D→D→Bool
 |.non,.non=>true
 |.bl a,.bl b=>a==b
 |.int a,.int b=>a==b
 |.bl a,.int b=>(if a then (1:Int) else 0)==b
 |.int a,.bl b=>a==(if b then (1:Int) else 0)
 |.str a,.str b=>a==b
 |.lst a,.lst b=>eqBL a b
 |.tup a,.tup b=>eqBL a b
 |_,_=>false
noncomputable def eqBL:List D→List D→Bool
 | [],[]=>true
 |a::as,b::bs=>bW a b&&eqBL as bs
 |_,_=>false
end
mutual
noncomputable def bc:Nat→D→Bool
 |_,.non=>true
 |_,.bl _=>true
 |_,.int _=>true
 |_,.str _=>true
 |n,.lst l=>decide (1≤n)&&plL (n-1) l
 |n,.tup l=>decide (1≤n)&&plL (n-1) l
 |_,.ins _ _ _=>false
 |_,.dct _ _=>false
 |_,.scr _=>false
 |_,.xc _=>false
 |_,.fdc _ _=>false
noncomputable def plL:Nat→List D→Bool
 |_,[]=>true
 |n,d::ds=>bc n d&&plL n ds
end
theorem wK:∀{n:Nat} {ds:List D} {i:Nat} {d:D},plL n ds=true→ds[i]?=some d→bc n d=true
 |_,[],_,_,_,e=>by simp at e
 |n,a::as,0,_,h,e=>by
  simp at e;subst e;unfold plL at h;rw[and_eq_true]at h;exact h.1
 |n,a::as,i+1,d,h,e=>by
  unfold plL at h;rw[and_eq_true]at h;exact wK (i:=i) h.2 (by simpa using e)
theorem tf:∀{as bs:List D} {n:Nat} {e:Nat→Bool},as.length=bs.length→(∀(i:Nat) (a b:D),as[i]?=some a→bs[i]?=some b→e i=bW a b)→n=as.length→(List.range n).all e=eqBL as bs
 | [],[],_,_,_,_,hn=>by subst hn;unfold eqBL;rfl
 | [],_::_,_,_,h,_,_=>by simp at h
 |_::_,[],_,_,h,_,_=>by simp at h
 |a::as,b::bs,n,e,h,he,hn=>by
  subst hn;unfold eqBL;rw[length_cons,List.range_succ_eq_map,List.all_cons,he 0 a b rfl rfl,all_map];congr 1;exact tf (e:=e ∘ Nat.succ) (by simpa using h) (fun i x y hx hy=>he (i+1) x y (by simpa using hx) (by simpa using hy)) rfl
theorem oi:∀{as bs:List D},as.length≠bs.length→eqBL as bs=false
 | [],[],h=>absurd rfl h
 | [],_::_,_=>by unfold eqBL;rfl
 |_::_,[],_=>by unfold eqBL;rfl
 |a::as,b::bs,h=>by
  unfold eqBL;rw[oi (as:=as) (bs:=bs) (fun z=>h (by simp[z])),Bool.and_false]
mutual
theorem tq:∀{n:Nat} {d:D},bc n d=true→bW d d=true
 |_,.non,_=>by unfold bW;rfl
 |_,.bl b,_=>by unfold bW;simp
 |_,.int b,_=>by unfold bW;simp
 |_,.str b,_=>by unfold bW;simp
 |n,.lst l,h=>by
  unfold bc at h;rw[and_eq_true]at h;unfold bW;exact eqBL_refl h.2
 |n,.tup l,h=>by
  unfold bc at h;rw[and_eq_true]at h;unfold bW;exact eqBL_refl h.2
 |_,.ins _ _ _,h=>by unfold bc at h;cases h
theorem eqBL_refl:∀{n:Nat} {ds:List D},plL n ds=true→eqBL ds ds=true
 |_,[],_=>by unfold eqBL;rfl
 |n,d::ds,h=>by
  unfold plL at h;rw[and_eq_true]at h;unfold eqBL;rw[tq h.1,eqBL_refl h.2];rfl
end
section
variable{X:Cx}{E:XK}{pins:List (Addr×Obj)}{σ:St}{G H:Hp}{s:Shared}
theorem Inv.isTup (I:Inv X pins σ H s){a:Addr}{xs:List V}(h:nk X.K H a xs):∃its:List Value,Vals xs its∧s.heap.IsTuple a its.toArray:=by
 refine cj (I.tuple h) fun its r p _=>?_;exact⟨its,r,p⟩
theorem Inv.isLst (I:Inv X pins σ H s){a:Addr}{xs:List V}(h:gC X.K H a xs):∃its:List Value,Vals xs its∧s.heap.IsList a its.toArray:=by
 refine cj (I.list h) fun its r p _=>?_;exact⟨its,r,p.isList⟩
mutual
theorem Rep.inj (I:Inv X pins σ H s)(hs:Same G H):∀{n m:Nat} {d e:D} {x:V},bc n d=true→bc m e=true→Rep X.K G d x→Rep X.K G e x→d=e
 |_,_,.non,e,x,_,he,hx,hy=>by
  rw[rep_non]at hx;subst hx;cases e with
  |non=>rfl
  |bl b=>rw[rep_bl]at hy;cases hy
  |int b=>rw[rep_int]at hy;cases hy
  |str b=>rw[rep_str]at hy;cases hy
  |lst b=>rw[rep_lst]at hy;refine mV (hy) fun _ _ q _=>?_;cases q
  |tup b=>rw[rep_tup]at hy;refine mV (hy) fun _ _ q _=>?_;cases q
  |ins _ _ _=>unfold bc at he;cases he
  |dct _ _=>unfold bc at he;cases he
  |scr _=>unfold bc at he;cases he
  |xc _=>unfold bc at he;cases he
  |fdc _ _=>unfold bc at he;cases he
 |_,_,.bl c,e,x,_,he,hx,hy=>by
  rw[rep_bl]at hx;subst hx;cases e with
  |non=>rw[rep_non]at hy;cases hy
  |bl b=>rw[rep_bl]at hy;cases hy;rfl
  |int b=>rw[rep_int]at hy;cases hy
  |str b=>rw[rep_str]at hy;cases hy
  |lst b=>rw[rep_lst]at hy;refine mV (hy) fun _ _ q _=>?_;cases q
  |tup b=>rw[rep_tup]at hy;refine mV (hy) fun _ _ q _=>?_;cases q
  |ins _ _ _=>unfold bc at he;cases he
  |dct _ _=>unfold bc at he;cases he
  |scr _=>unfold bc at he;cases he
  |xc _=>unfold bc at he;cases he
  |fdc _ _=>unfold bc at he;cases he
 |_,_,.int c,e,x,_,he,hx,hy=>by
  rw[rep_int]at hx;subst hx;cases e with
  |non=>rw[rep_non]at hy;cases hy
  |bl b=>rw[rep_bl]at hy;cases hy
  |int b=>rw[rep_int]at hy;cases hy;rfl
  |str b=>rw[rep_str]at hy;cases hy
  |lst b=>rw[rep_lst]at hy;refine mV (hy) fun _ _ q _=>?_;cases q
  |tup b=>rw[rep_tup]at hy;refine mV (hy) fun _ _ q _=>?_;cases q
  |ins _ _ _=>unfold bc at he;cases he
  |dct _ _=>unfold bc at he;cases he
  |scr _=>unfold bc at he;cases he
  |xc _=>unfold bc at he;cases he
  |fdc _ _=>unfold bc at he;cases he
 |_,_,.str c,e,x,_,he,hx,hy=>by
  rw[rep_str]at hx;subst hx;cases e with
  |non=>rw[rep_non]at hy;cases hy
  |bl b=>rw[rep_bl]at hy;cases hy
  |int b=>rw[rep_int]at hy;cases hy
  |str b=>rw[rep_str]at hy;cases hy;rfl
  |lst b=>rw[rep_lst]at hy;refine mV (hy) fun _ _ q _=>?_;cases q
  |tup b=>rw[rep_tup]at hy;refine mV (hy) fun _ _ q _=>?_;cases q
  |ins _ _ _=>unfold bc at he;cases he
  |dct _ _=>unfold bc at he;cases he
  |scr _=>unfold bc at he;cases he
  |xc _=>unfold bc at he;cases he
  |fdc _ _=>unfold bc at he;cases he
 |n,m,.lst c,e,x,hd,he,hx,hy=>by
  rw[rep_lst]at hx;refine bA (hx) fun a xs hS61 sq rl=>?_;subst hS61;unfold bc at hd;rw[and_eq_true]at hd;cases e with
  |non=>rw[rep_non]at hy;cases hy
  |bl b=>rw[rep_bl]at hy;cases hy
  |int b=>rw[rep_int]at hy;cases hy
  |str b=>rw[rep_str]at hy;cases hy
  |lst b=>
   rw[rep_lst]at hy;refine bA (hy) fun a' ys q u v=>?_;cases q;rw[I.list_inj (hs.seq u.sq) (hs.seq sq.sq)]at v;unfold bc at he;rw[and_eq_true]at he;rw[RepL.inj I hs hd.2 he.2 rl v]
  |tup b=>
   rw[rep_tup]at hy;refine bA (hy) fun a' ys q u v=>?_;cases q;refine cps fun PP kP=>?_;obtain⟨_,_,p1⟩:=I.isLst (hs.seq sq.sq);obtain⟨_,_,p2⟩:=I.isTup (hs.seqT u.sq);refine kP ?_;clear kP PP;exact absurd rfl (SeqAt.ne_of_list_tuple p1 p2)
  |ins _ _ _=>unfold bc at he;cases he
  |dct _ _=>unfold bc at he;cases he
  |scr _=>unfold bc at he;cases he
  |xc _=>unfold bc at he;cases he
  |fdc _ _=>unfold bc at he;cases he
 |n,m,.tup c,e,x,hd,he,hx,hy=>by
  rw[rep_tup]at hx;refine bA (hx) fun a xs hS62 sq rl=>?_;subst hS62;unfold bc at hd;rw[and_eq_true]at hd;cases e with
  |non=>rw[rep_non]at hy;cases hy
  |bl b=>rw[rep_bl]at hy;cases hy
  |int b=>rw[rep_int]at hy;cases hy
  |str b=>rw[rep_str]at hy;cases hy
  |tup b=>
   rw[rep_tup]at hy;refine bA (hy) fun a' ys q u v=>?_;cases q;rw[I.tuple_inj (hs.seqT u.sq) (hs.seqT sq.sq)]at v;unfold bc at he;rw[and_eq_true]at he;rw[RepL.inj I hs hd.2 he.2 rl v]
  |lst b=>
   rw[rep_lst]at hy;refine bA (hy) fun a' ys q u v=>?_;cases q;refine cps fun PP kP=>?_;obtain⟨_,_,p1⟩:=I.isLst (hs.seq u.sq);obtain⟨_,_,p2⟩:=I.isTup (hs.seqT sq.sq);refine kP ?_;clear kP PP;exact absurd rfl (SeqAt.ne_of_list_tuple p1 p2)
  |ins _ _ _=>unfold bc at he;cases he
  |dct _ _=>unfold bc at he;cases he
  |scr _=>unfold bc at he;cases he
  |xc _=>unfold bc at he;cases he
  |fdc _ _=>unfold bc at he;cases he
 |_,_,.ins _ _ _,_,_,hd,_,_,_=>by unfold bc at hd;cases hd
theorem RepL.inj (I:Inv X pins σ H s)(hs:Same G H):∀{n m:Nat} {ds es:List D} {xs:List V},plL n ds=true→plL m es=true→RepL X.K G ds xs→RepL X.K G es xs→ds=es
 |_,_,[],es,_,_,_,h,h'=>by
  rw[h.inv0]at h';cases es with
  |nil=>rfl
  |cons e es=>refine mV (h'.inv) fun _ _ q _=>?_;cases q
 |_,_,d::ds,es,_,hd,he,h,h'=>by
  refine bA (h.inv) fun v r hS63 a b=>?_;subst hS63;cases es with
  |nil=>have z:=h'.inv0;cases z
  |cons e es=>
   refine bA (h'.inv) fun v' r' q a' b'=>?_;cases q;unfold plL at hd he;rw[and_eq_true]at hd he;rw[Rep.inj I hs hd.1 he.1 a a',RepL.inj I hs hd.2 he.2 b b']
end
end
end L2
namespace L2
open PySem PySem.Spec PyProof.Rows PySem.SeqAt
section
variable{X:Cx}{E:XK}{pins:List (Addr×Obj)}{σ:St}{G H:Hp}{s:Shared}
noncomputable def IZ (A:Around)(s:Shared)(u v:Value)(b:Bool):Prop:=EqAt A s u v b∧RcAt A s u v b∧RcNeAt A s u v (!b)
theorem xa {xs:List V}{us:List Value}(r:Vals xs us){j:Nat}(h:j<us.toArray.size):∃x,xs[j]?=some x∧RelV x us.toArray[j]:=by
 have hl:=r.length;have h':j<us.length:=by simpa using h
 have hx:j<xs.length:=by omega
 obtain⟨u,hu,ru⟩:=r.get (i:=j) (x:=xs[j]) (by simp[hx]);refine⟨xs[j],by simp[hx],?_⟩;have e:us.toArray[j]=u:=by
  have q:us[j]?=some us[j]:=by simp[h']
  rw[q]at hu;cases hu;simp
 rw[e];exact ru
theorem lg {n:Nat}{ds es:List D}{xs ys:List V}{us vs:List Value}{A:Around}(rd:RepL X.K G ds xs)(re:RepL X.K G es ys)(ru:Vals xs us)(rv:Vals ys vs)
  (ih:∀(d e:D) (x y:V) (u v:Value),d∈ds→e∈es→Rep X.K G d x→Rep X.K G e y→RelV x u→RelV y v→EqAt A s u v (bW d e)) :
  ∀j (h1:j<us.toArray.size) (h2:j<vs.toArray.size),EqAt A s us.toArray[j] vs.toArray[j] (bW (ds.getD j .non) (es.getD j .non)):=by
 intro j h1 h2;refine cps fun PP kP=>?_;obtain⟨x,hx,rx⟩:=xa ru h1;obtain⟨y,hy,ry⟩:=xa rv h2;refine kP ?_;clear kP PP;have l1:=rd.length;have l2:=re.length;have jx:j<ds.length:=by rw[l1];exact(cU hx).1
 have jy:j<es.length:=by rw[l2];exact(cU hy).1
 have e1:ds[j]?=some ds[j]:=by simp[jx]
 have e2:es[j]?=some es[j]:=by simp[jy]
 refine cps fun PP kP=>?_;obtain⟨x',hx',px⟩:=rd.get e1;obtain⟨y',hy',py⟩:=re.get e2;refine kP ?_;clear kP PP;rw[hx]at hx';cases hx';rw[hy]at hy';cases hy';have g1:ds.getD j .non=ds[j]:=by simp[List.getD,e1]
 have g2:es.getD j .non=es[j]:=by simp[List.getD,e2]
 rw[g1,g2];exact ih _ _ x y _ _ (getElem_mem jx) (getElem_mem jy) px py rx ry
theorem wn {ds:List D}{i:Nat}{d:D}(h:ds[i]?=some d):ds.getD i .non=d:=by simp[List.getD,h]
theorem oj {ds es:List D}{us vs:List Value}{xs ys:List V}(rd:RepL X.K G ds xs)(re:RepL X.K G es ys)(ru:Vals xs us)(rv:Vals ys vs)(hsz:us.toArray.size=vs.toArray.size) :
  (List.range us.toArray.size).all (fun j=>bW (ds.getD j .non) (es.getD j .non))=eqBL ds es:=by
 have l1:=rd.length;have l2:=re.length;have l3:=ru.length;have l4:=rv.length;have h1:us.length=vs.length:=by simpa using hsz
 refine tf (by omega) (fun i a b ha hb=>?_) (by simp;omega);rw[wn ha,wn hb]
noncomputable def Jb (K:W.Frag)(G:Hp)(s:Shared):D→Value→Prop
 |.non,u=>u= .none
 |.bl b,u=>u= .bool b
 |.int i,u=>∃t,u= .int i t
 |.str x,u=>∃t,u= .str x t
 |.lst ds,u=>∃a its xs,u= .ref a∧s.heap.IsList a its.toArray∧RepL K G ds xs∧Vals xs its
 |.tup ds,u=>∃a its xs,u= .ref a∧s.heap.IsTuple a its.toArray∧RepL K G ds xs∧Vals xs its
 |.ins _ _ _,_=>True
 |.dct _ _,_=>True
 |.scr _,_=>True
 |.xc _,_=>True
 |.fdc _ _,_=>True
theorem lx (I:Inv X pins σ H s)(hs:Same G H){d:D}{x:V}{u:Value}(rx:Rep X.K G d x)(ru:RelV x u):Jb X.K G s d u:=by
 cases d with
 |non=>rw[rep_non]at rx;subst rx;exact ru
 |bl b=>rw[rep_bl]at rx;subst rx;exact ru
 |int i=>rw[rep_int]at rx;subst rx;exact ru
 |str i=>rw[rep_str]at rx;subst rx;exact ru
 |lst l=>
  rw[rep_lst]at rx;refine cps fun PP kP=>?_;refine bA (rx) fun a xs hS64 sq rl=>?_;subst hS64;obtain⟨its,r,p⟩:=I.isLst (hs.seq sq.sq);refine kP ?_;clear kP PP;exact(jb a its xs ru p rl r)
 |tup l=>
  rw[rep_tup]at rx;refine cps fun PP kP=>?_;refine bA (rx) fun a xs hS65 sq rl=>?_;subst hS65;obtain⟨its,r,p⟩:=I.isTup (hs.seqT sq.sq);refine kP ?_;clear kP PP;exact(jb a its xs ru p rl r)
 |ins _ _ _=>trivial
 |dct _ _=>trivial
 |scr _=>trivial
 |xc _=>trivial
 |fdc _ _=>trivial
theorem xz {n m:Nat}{ds es:List D}{a b:Addr}{xs ys:List V}{us vs:List Value}{A:Around}(hu:A.units<cLine)(ha:s.heap.IsList a us.toArray)(hb:s.heap.IsList b vs.toArray)(rd:RepL X.K G ds xs)(re:RepL X.K G es ys)(ru:Vals xs us)(rv:Vals ys vs)
  (same:a=b→eqBL ds es=true)
  (ih:∀(d e:D) (x y:V) (u v:Value),d∈ds→e∈es→Rep X.K G d x→Rep X.K G e y→RelV x u→RelV y v→EqAt A.in1 s u v (bW d e)):IZ A s (.ref a) (.ref b) (eqBL ds es):=by
 have l1:=rd.length;have l2:=re.length;have l3:=ru.length;have l4:=rv.length;have rc:RcAt A s (.ref a) (.ref b) (eqBL ds es)∧RcNeAt A s (.ref a) (.ref b) (!eqBL ds es):=by
  by_cases w:us.toArray.size=vs.toArray.size
  ·have e1:=oj rd re ru rv w;rw[←e1];exact⟨RcAt.lists ha hb w hu (lg (n:=n) rd re ru rv ih),RcNeAt.lists ha hb w hu (lg (n:=n) rd re ru rv ih)⟩
  ·have e1:eqBL ds es=false:=oi fun z=>w (by simp;omega);rw[e1];have hne:(us.toArray.size != vs.toArray.size)=true:=by simpa using w
   exact⟨RcAt.lists_lengths ha hb hne hu,RcNeAt.lists_lengths ha hb hne hu⟩
 refine⟨?_,rc.1,rc.2⟩;by_cases hab:a=b
 ·subst hab;rw[same rfl];exact EqAt.same _
 ·exact EqAt.of_refs hab rc.1
theorem uS {n m:Nat}{ds es:List D}{a b:Addr}{xs ys:List V}{us vs:List Value}{A:Around}(hu:A.units<cLine)(ha:s.heap.IsTuple a us.toArray)(hb:s.heap.IsTuple b vs.toArray)(rd:RepL X.K G ds xs)(re:RepL X.K G es ys)(ru:Vals xs us)(rv:Vals ys vs)
  (same:a=b→eqBL ds es=true)
  (ih:∀(d e:D) (x y:V) (u v:Value),d∈ds→e∈es→Rep X.K G d x→Rep X.K G e y→RelV x u→RelV y v→EqAt A.in1 s u v (bW d e)):IZ A s (.ref a) (.ref b) (eqBL ds es):=by
 have l1:=rd.length;have l2:=re.length;have l3:=ru.length;have l4:=rv.length;have val:((List.range (min us.toArray.size vs.toArray.size)).all (fun j=>bW (ds.getD j .non) (es.getD j .non))&&us.toArray.size==vs.toArray.size)=eqBL ds es:=by
  by_cases w:us.toArray.size=vs.toArray.size
  ·have e1:=oj rd re ru rv w;rw[←w,Nat.min_self,e1];simp
  ·have e1:eqBL ds es=false:=oi fun z=>w (by simp;omega);have e2:(us.toArray.size==vs.toArray.size)=false:=by simpa using w
   rw[e1,e2,Bool.and_false]
 have rc:RcAt A s (.ref a) (.ref b) (eqBL ds es)∧RcNeAt A s (.ref a) (.ref b) (!eqBL ds es):=by
  rw[←val];exact⟨RcAt.tuples ha hb hu (lg (n:=n) rd re ru rv ih),RcNeAt.tuples ha hb hu (lg (n:=n) rd re ru rv ih)⟩
 refine⟨?_,rc.1,rc.2⟩;by_cases hab:a=b
 ·subst hab;rw[same rfl];exact EqAt.same _
 ·exact EqAt.of_refs hab rc.1
theorem eC {n:Nat}{ds:List D}{d:D}(h:plL n ds=true)(hd:d∈ds):bc n d=true:=by
 obtain⟨i,hi⟩:=List.getElem?_of_mem hd;exact wK h hi
theorem qh (I:Inv X pins σ H s)(hs:Same G H):∀(n m:Nat) (d e:D) (x y:V) (u v:Value) (A:Around),bc n d=true→bc m e=true→Rep X.K G d x→Rep X.K G e y→RelV x u→RelV y v→A.units+n<cLine→IZ A s u v (bW d e):=by
 intro n
 induction n with
 |zero=>
  intro m d e x y u v A J C w M R Q hu;have kd:=lx I hs w R;have E:=lx I hs M Q;have B:A.units<cLine:=by omega
  cases d with
  |lst l=>unfold bc at J;simp at J
  |tup l=>unfold bc at J;simp at J
  |ins _ _ _=>unfold bc at J;cases J
  |dct _ _=>unfold bc at J;cases J
  |scr _=>unfold bc at J;cases J
  |xc _=>unfold bc at J;cases J
  |fdc _ _=>unfold bc at J;cases J
  |non=>
   cases (show u= .none from kd);cases e with
   |non=>cases (show v= .none from E);unfold bW;exact⟨EqAt.same _,RcAt.none_none,RcNeAt.none_none⟩
   |bl b=>cases (show v= .bool b from E);unfold bW;exact⟨EqAt.none_bool _,RcAt.none_bool _,RcNeAt.none_bool _⟩
   |int b=>obtain⟨t,rfl⟩:=E;unfold bW;exact⟨EqAt.none_int _ _,RcAt.none_int _ _,RcNeAt.none_int _ _⟩
   |str b=>obtain⟨t,rfl⟩:=E;unfold bW;exact⟨EqAt.none_str _ _,RcAt.none_str _ _,RcNeAt.none_str _ _⟩
   |lst b=>refine m9 (E) fun a L S hS66 p _=>?_;subst hS66;unfold bW;exact⟨EqAt.none_list p B,RcAt.none_list p B,RcNeAt.none_list p B⟩
   |tup b=>refine m9 (E) fun a L S hS67 p _=>?_;subst hS67;unfold bW;exact⟨EqAt.none_tuple p B,RcAt.none_tuple p B,RcNeAt.none_tuple p B⟩
   |ins _ _ _=>unfold bc at C;cases C
   |dct _ _=>unfold bc at C;cases C
   |scr _=>unfold bc at C;cases C
   |xc _=>unfold bc at C;cases C
   |fdc _ _=>unfold bc at C;cases C
  |bl c=>
   cases (show u= .bool c from kd);cases e with
   |non=>cases (show v= .none from E);unfold bW;exact⟨EqAt.bool_none _,RcAt.bool_none _,RcNeAt.bool_none _⟩
   |bl b=>cases (show v= .bool b from E);unfold bW;exact⟨EqAt.bool_bool _ _,RcAt.bool_bool _ _,RcNeAt.bool_bool _ _⟩
   |int b=>obtain⟨t,rfl⟩:=E;unfold bW;exact⟨EqAt.bool_int _ _ _,RcAt.bool_int _ _ _,RcNeAt.bool_int _ _ _⟩
   |str b=>obtain⟨t,rfl⟩:=E;unfold bW;exact⟨EqAt.bool_str _ _ _,RcAt.bool_str _ _ _,RcNeAt.bool_str _ _ _⟩
   |lst b=>refine m9 (E) fun a L S hS68 p _=>?_;subst hS68;unfold bW;exact⟨EqAt.bool_list _ p B,RcAt.bool_list _ p B,RcNeAt.bool_list _ p B⟩
   |tup b=>refine m9 (E) fun a L S hS69 p _=>?_;subst hS69;unfold bW;exact⟨EqAt.bool_tuple _ p B,RcAt.bool_tuple _ p B,RcNeAt.bool_tuple _ p B⟩
   |ins _ _ _=>unfold bc at C;cases C
   |dct _ _=>unfold bc at C;cases C
   |scr _=>unfold bc at C;cases C
   |xc _=>unfold bc at C;cases C
   |fdc _ _=>unfold bc at C;cases C
  |int c=>
   obtain⟨t0,rfl⟩:=kd;cases e with
   |non=>cases (show v= .none from E);unfold bW;exact⟨EqAt.int_none _ _,RcAt.int_none _ _,RcNeAt.int_none _ _⟩
   |bl b=>cases (show v= .bool b from E);unfold bW;exact⟨EqAt.int_bool _ _ _,RcAt.int_bool _ _ _,RcNeAt.int_bool _ _ _⟩
   |int b=>obtain⟨t,rfl⟩:=E;unfold bW;exact⟨EqAt.int_int _ _ _ _,RcAt.int_int _ _ _ _,RcNeAt.int_int _ _ _ _⟩
   |str b=>obtain⟨t,rfl⟩:=E;unfold bW;exact⟨EqAt.int_str _ _ _ _,RcAt.int_str _ _ _ _,RcNeAt.int_str _ _ _ _⟩
   |lst b=>refine m9 (E) fun a L S hS70 p _=>?_;subst hS70;unfold bW;exact⟨EqAt.int_list _ _ p B,RcAt.int_list _ _ p B,RcNeAt.int_list _ _ p B⟩
   |tup b=>refine m9 (E) fun a L S hS71 p _=>?_;subst hS71;unfold bW;exact⟨EqAt.int_tuple _ _ p B,RcAt.int_tuple _ _ p B,RcNeAt.int_tuple _ _ p B⟩
   |ins _ _ _=>unfold bc at C;cases C
   |dct _ _=>unfold bc at C;cases C
   |scr _=>unfold bc at C;cases C
   |xc _=>unfold bc at C;cases C
   |fdc _ _=>unfold bc at C;cases C
  |str c=>
   obtain⟨t0,rfl⟩:=kd;cases e with
   |non=>cases (show v= .none from E);unfold bW;exact⟨EqAt.str_none _ _,RcAt.str_none _ _,RcNeAt.str_none _ _⟩
   |bl b=>cases (show v= .bool b from E);unfold bW;exact⟨EqAt.str_bool _ _ _,RcAt.str_bool _ _ _,RcNeAt.str_bool _ _ _⟩
   |int b=>obtain⟨t,rfl⟩:=E;unfold bW;exact⟨EqAt.str_int _ _ _ _,RcAt.str_int _ _ _ _,RcNeAt.str_int _ _ _ _⟩
   |str b=>obtain⟨t,rfl⟩:=E;unfold bW;exact⟨EqAt.str_str _ _ _ _,RcAt.str_str _ _ _ _,RcNeAt.str_str _ _ _ _⟩
   |lst b=>refine m9 (E) fun a L S hS72 p _=>?_;subst hS72;unfold bW;exact⟨EqAt.str_list _ _ p B,RcAt.str_list _ _ p B,RcNeAt.str_list _ _ p B⟩
   |tup b=>refine m9 (E) fun a L S hS73 p _=>?_;subst hS73;unfold bW;exact⟨EqAt.str_tuple _ _ p B,RcAt.str_tuple _ _ p B,RcNeAt.str_tuple _ _ p B⟩
   |ins _ _ _=>unfold bc at C;cases C
   |dct _ _=>unfold bc at C;cases C
   |scr _=>unfold bc at C;cases C
   |xc _=>unfold bc at C;cases C
   |fdc _ _=>unfold bc at C;cases C
 |succ n ih=>
  intro m d e x y u v A J C w M R Q hu;have kd:=lx I hs w R;have E:=lx I hs M Q;have B:A.units<cLine:=by omega
  have hu1:A.in1.units+n<cLine:=by show A.units+1+n<cLine;omega
  have P:∀(c:D),bc (n+1) c=true→(match c with|.lst _=>False|.tup _=>False|_=>True)→bc n c=true:=fun c h hc=>by cases c <;> first|exact hc.elim|(unfold bc at h ⊢;exact h)
  cases d with
  |lst l=>
   refine ja (kd) fun a us S hS74 F rl r1=>?_;subst hS74;have hd':=J;unfold bc at hd';rw[and_eq_true]at hd';cases e with
   |non=>cases (show v= .none from E);unfold bW;exact⟨EqAt.list_none F B,RcAt.list_none F B,RcNeAt.list_none F B⟩
   |bl b=>cases (show v= .bool b from E);unfold bW;exact⟨EqAt.list_bool _ F B,RcAt.list_bool _ F B,RcNeAt.list_bool _ F B⟩
   |int b=>obtain⟨t,rfl⟩:=E;unfold bW;exact⟨EqAt.list_int _ _ F B,RcAt.list_int _ _ F B,RcNeAt.list_int _ _ F B⟩
   |str b=>obtain⟨t,rfl⟩:=E;unfold bW;exact⟨EqAt.list_str _ _ F B,RcAt.list_str _ _ F B,RcNeAt.list_str _ _ F B⟩
   |lst l2=>
    refine ja (E) fun b vs ys hS75 N O r2=>?_;subst hS75;have he':=C;unfold bc at he';rw[and_eq_true]at he';unfold bW;refine xz (X:=X) (n:=n) (m:=m) B F N rl O r1 r2 (fun hab=>?_) fun d' e' x' y' u' v' hm1 hm2 q1 q2 q3 q4=>(ih (m-1) d' e' x' y' u' v' A.in1 (eC hd'.2 hm1) (eC he'.2 hm2) q1 q2 q3 q4 hu1).1;subst hab;have ex:x= .ref a:=by rw[rep_lst]at w;refine mV (w) fun a' _ hS76 _=>?_;subst hS76;cases R;rfl
    have ey:y= .ref a:=by rw[rep_lst]at M;refine mV (M) fun a' _ hS77 _=>?_;subst hS77;cases Q;rfl
    subst ex ey;have z:=Rep.inj I hs J C w M;cases z;exact eqBL_refl hd'.2
   |tup l2=>
    refine ja (E) fun b vs ys hS78 N O r2=>?_;subst hS78;unfold bW;exact⟨EqAt.list_tuple F N B,RcAt.list_tuple F N B,RcNeAt.list_tuple F N B⟩
   |ins _ _ _=>unfold bc at C;cases C
   |dct _ _=>unfold bc at C;cases C
   |scr _=>unfold bc at C;cases C
   |xc _=>unfold bc at C;cases C
   |fdc _ _=>unfold bc at C;cases C
  |tup l=>
   refine ja (kd) fun a us S hS79 F rl r1=>?_;subst hS79;have hd':=J;unfold bc at hd';rw[and_eq_true]at hd';cases e with
   |non=>cases (show v= .none from E);unfold bW;exact⟨EqAt.tuple_none F B,RcAt.tuple_none F B,RcNeAt.tuple_none F B⟩
   |bl b=>cases (show v= .bool b from E);unfold bW;exact⟨EqAt.tuple_bool _ F B,RcAt.tuple_bool _ F B,RcNeAt.tuple_bool _ F B⟩
   |int b=>obtain⟨t,rfl⟩:=E;unfold bW;exact⟨EqAt.tuple_int _ _ F B,RcAt.tuple_int _ _ F B,RcNeAt.tuple_int _ _ F B⟩
   |str b=>obtain⟨t,rfl⟩:=E;unfold bW;exact⟨EqAt.tuple_str _ _ F B,RcAt.tuple_str _ _ F B,RcNeAt.tuple_str _ _ F B⟩
   |tup l2=>
    refine ja (E) fun b vs ys hS80 N O r2=>?_;subst hS80;have he':=C;unfold bc at he';rw[and_eq_true]at he';unfold bW;refine uS (X:=X) (n:=n) (m:=m) B F N rl O r1 r2 (fun hab=>?_) fun d' e' x' y' u' v' hm1 hm2 q1 q2 q3 q4=>(ih (m-1) d' e' x' y' u' v' A.in1 (eC hd'.2 hm1) (eC he'.2 hm2) q1 q2 q3 q4 hu1).1;subst hab;have ex:x= .ref a:=by rw[rep_tup]at w;refine mV (w) fun a' _ hS81 _=>?_;subst hS81;cases R;rfl
    have ey:y= .ref a:=by rw[rep_tup]at M;refine mV (M) fun a' _ hS82 _=>?_;subst hS82;cases Q;rfl
    subst ex ey;have z:=Rep.inj I hs J C w M;cases z;exact eqBL_refl hd'.2
   |lst l2=>
    refine ja (E) fun b vs ys hS83 N O r2=>?_;subst hS83;unfold bW;exact⟨EqAt.tuple_list F N B,RcAt.tuple_list F N B,RcNeAt.tuple_list F N B⟩
   |ins _ _ _=>unfold bc at C;cases C
   |dct _ _=>unfold bc at C;cases C
   |scr _=>unfold bc at C;cases C
   |xc _=>unfold bc at C;cases C
   |fdc _ _=>unfold bc at C;cases C
  |ins _ _ _=>unfold bc at J;cases J
  |dct _ _=>unfold bc at J;cases J
  |scr _=>unfold bc at J;cases J
  |xc _=>unfold bc at J;cases J
  |fdc _ _=>unfold bc at J;cases J
  |non=>exact ih m _ e x y u v A (P _ J trivial) C w M R Q (by omega)
  |bl c=>exact ih m _ e x y u v A (P _ J trivial) C w M R Q (by omega)
  |int c=>exact ih m _ e x y u v A (P _ J trivial) C w M R Q (by omega)
  |str c=>exact ih m _ e x y u v A (P _ J trivial) C w M R Q (by omega)
noncomputable def Bp (d e:D):Res D:=if bc 20 d=true∧bc 20 e=true then .ok (.bl (bW d e)) else .bad
noncomputable def sG (d e:D):Res D:=if bc 20 d=true∧bc 20 e=true then .ok (.bl (!bW d e)) else .bad
theorem wg (hu:X.A.units+64<cLine):DOp X E (compareOp .Eq) Bp:=by
 intro pins s σ G H x y dx dy v u I hs rx ry rv ru ok;unfold Bp at ok ⊢;by_cases h:bc 20 dx=true∧bc 20 dy=true
 ·rw[if_pos h];exact(qh I hs 20 20 dx dy x y v u X.A h.1 h.2 rx ry rv ru (by omega)).2.1 _ _ _ _ ⟨_,rfl,.bl (bW dx dy),G,H,I,rfl,.refl hs,rep_bl.mpr rfl⟩
 ·rw[if_neg h]at ok;exact ok.elim
theorem la (hu:X.A.units+64<cLine):DOp X E (compareOp .NotEq) sG:=by
 intro pins s σ G H x y dx dy v u I hs rx ry rv ru ok;unfold sG at ok ⊢;by_cases h:bc 20 dx=true∧bc 20 dy=true
 ·rw[if_pos h];exact(qh I hs 20 20 dx dy x y v u X.A h.1 h.2 rx ry rv ru (by omega)).2.2 _ _ _ _ ⟨_,rfl,.bl (!bW dx dy),G,H,I,rfl,.refl hs,rep_bl.mpr rfl⟩
 ·rw[if_neg h]at ok;exact ok.elim
end
section
variable{X:Cx}{E:XK}{pins:List (Addr×Obj)}{σ:St}{G H:Hp}{s:Shared}
open Classical in
noncomputable def Br (K:W.Frag)(G:Hp)(ds:List D)(dx:D)(u:Value):Bool:=decide (∃d x,d∈ds∧Rep K G d x∧RelV x u∧bW d dx=true)
theorem jt (I:Inv X pins σ H s)(hs:Same G H){ds:List D}{dx d:D}{x:V}{u:Value}(hp:plL 19 ds=true)(hd:d∈ds)(rx:Rep X.K G d x)(ru:RelV x u):Br X.K G ds dx u=bW d dx:=by
 unfold Br;cases e:bW d dx with
 |true=>exact @decide_eq_true _ (Classical.propDecidable _) (l9 d x hd rx ru e)
 |false=>
  refine @decide_eq_false _ (Classical.propDecidable _) fun hZ132=>?_;refine pG (hZ132) fun d' x' hd' rx' ru' e'=>?_;have hx:x'=x:=RelV.inj ru' ru;subst hx;rw[Rep.inj I hs (eC hp hd') (eC hp hd) rx' rx,e]at e';cases e'
theorem iB {ds:List D}{xs:List V}{us:List Value}{f:Value→Bool}{g:D→Bool}:RepL X.K G ds xs→Vals xs us→(∀d x u,d∈ds→Rep X.K G d x→RelV x u→f u=g d)→us.any f=ds.any g:=by
 intro rd
 induction ds generalizing xs us with
 |nil=>intro r _;rw[rd.inv0]at r;cases r;rfl
 |cons d ds ih=>
  intro r h;refine bA (rd.inv) fun v q hS84 a b=>?_;subst hS84;cases r with
  |cons r1 r2=>
   rw[any_cons,any_cons,h d v _ mem_cons_self a r1,ih b r2 fun d' x' u' hm=>h d' x' u' (cR hm)]
noncomputable def uH (neg:Bool)(d e:D):Res D:=match e with
 |.lst l=>if plL 19 l=true∧bc 19 d=true then .ok (.bl (if neg then !(l.any fun y=>bW y d) else l.any fun y=>bW y d)) else .bad
 |.tup l=>if plL 19 l=true∧bc 19 d=true then .ok (.bl (if neg then !(l.any fun y=>bW y d) else l.any fun y=>bW y d)) else .bad
 |_=>.bad
theorem nD {ds:List D}{xs:List V}{us:List Value}{u:Value}(rd:RepL X.K G ds xs)(r:Vals xs us)(hu:u∈us):∃d x,d∈ds∧Rep X.K G d x∧RelV x u:=by
 induction ds generalizing xs us with
 |nil=>rw[rd.inv0]at r;cases r;cases hu
 |cons d ds ih=>
  refine bA (rd.inv) fun v q hS85 a b=>?_;subst hS85;cases r with
  |cons r1 r2=>
   rcases mem_cons.mp hu with rfl|hu
   ·exact(dR d v mem_cons_self a r1)
   ·refine bA (ih b r2 hu) fun d' x' h1 h2 h3=>?_;exact(dR d' x' (cR h1) h2 h3)
theorem Hj (hu:X.A.units+64<cLine):DOp X E (compareOp .In) (uH false):=by
 intro pins s σ G H x y J dy v u I j rx ry rv ru ok;unfold uH at ok ⊢;cases dy with
 |lst l=>
  dsimp only at ok ⊢;by_cases h:plL 19 l=true∧bc 19 J=true
  ·rw[if_pos h];rw[rep_lst]at ry;refine bA (ry) fun a xs hS86 sq rl=>?_;subst hS86;cases (show u= .ref a from ru);obtain⟨its,r,p⟩:=I.isLst (j.seq sq.sq);refine in_listAt (Br X.K G l J) p (fun w hw=>?_) ?_
   ·refine bA (nD rl r (by simpa using hw)) fun d z h1 B L=>?_;rw[jt I j h.1 h1 B L];exact(qh I j 19 19 d J z x w v X.A.in1 (eC h.1 h1) h.2 B rx L rv (by show X.A.units+1+19<cLine;omega)).1
   ·have e1:its.toArray.any (Br X.K G l J)=l.any fun y=>bW y J:=by
     rw[any_toArray];exact iB rl r fun d z w hm B L=>jt I j h.1 hm B L
    rw[e1];exact⟨_,rfl,.bl (l.any fun y=>bW y J),G,H,I,rfl,.refl j,rep_bl.mpr rfl⟩
  ·rw[if_neg h]at ok;exact ok.elim
 |tup l=>
  dsimp only at ok ⊢;by_cases h:plL 19 l=true∧bc 19 J=true
  ·rw[if_pos h];rw[rep_tup]at ry;refine bA (ry) fun a xs hS87 sq rl=>?_;subst hS87;cases (show u= .ref a from ru);obtain⟨its,r,p⟩:=I.isTup (j.seqT sq.sq);refine in_tupleAt (Br X.K G l J) p (fun w hw=>?_) ?_
   ·refine bA (nD rl r (by simpa using hw)) fun d z h1 B L=>?_;rw[jt I j h.1 h1 B L];exact(qh I j 19 19 d J z x w v X.A.in1 (eC h.1 h1) h.2 B rx L rv (by show X.A.units+1+19<cLine;omega)).1
   ·have e1:its.toArray.any (Br X.K G l J)=l.any fun y=>bW y J:=by
     rw[any_toArray];exact iB rl r fun d z w hm B L=>jt I j h.1 hm B L
    rw[e1];exact⟨_,rfl,.bl (l.any fun y=>bW y J),G,H,I,rfl,.refl j,rep_bl.mpr rfl⟩
  ·rw[if_neg h]at ok;exact ok.elim
 |_=>exact ok.elim
theorem sY (hu:X.A.units+64<cLine):DOp X E (compareOp .NotIn) (uH true):=by
 intro pins s σ G H x y J dy v u I j rx ry rv ru ok;unfold uH at ok ⊢;cases dy with
 |lst l=>
  dsimp only at ok ⊢;by_cases h:plL 19 l=true∧bc 19 J=true
  ·rw[if_pos h];rw[rep_lst]at ry;refine bA (ry) fun a xs hS88 sq rl=>?_;subst hS88;cases (show u= .ref a from ru);obtain⟨its,r,p⟩:=I.isLst (j.seq sq.sq);refine notIn_listAt (Br X.K G l J) p (fun w hw=>?_) ?_
   ·refine bA (nD rl r (by simpa using hw)) fun d z h1 B L=>?_;rw[jt I j h.1 h1 B L];exact(qh I j 19 19 d J z x w v X.A.in1 (eC h.1 h1) h.2 B rx L rv (by show X.A.units+1+19<cLine;omega)).1
   ·have e1:its.toArray.any (Br X.K G l J)=l.any fun y=>bW y J:=by
     rw[any_toArray];exact iB rl r fun d z w hm B L=>jt I j h.1 hm B L
    rw[e1];exact⟨_,rfl,.bl (!(l.any fun y=>bW y J)),G,H,I,rfl,.refl j,rep_bl.mpr rfl⟩
  ·rw[if_neg h]at ok;exact ok.elim
 |tup l=>
  dsimp only at ok ⊢;by_cases h:plL 19 l=true∧bc 19 J=true
  ·rw[if_pos h];rw[rep_tup]at ry;refine bA (ry) fun a xs hS89 sq rl=>?_;subst hS89;cases (show u= .ref a from ru);obtain⟨its,r,p⟩:=I.isTup (j.seqT sq.sq);refine notIn_tupleAt (Br X.K G l J) p (fun w hw=>?_) ?_
   ·refine bA (nD rl r (by simpa using hw)) fun d z h1 B L=>?_;rw[jt I j h.1 h1 B L];exact(qh I j 19 19 d J z x w v X.A.in1 (eC h.1 h1) h.2 B rx L rv (by show X.A.units+1+19<cLine;omega)).1
   ·have e1:its.toArray.any (Br X.K G l J)=l.any fun y=>bW y J:=by
     rw[any_toArray];exact iB rl r fun d z w hm B L=>jt I j h.1 hm B L
    rw[e1];exact⟨_,rfl,.bl (!(l.any fun y=>bW y J)),G,H,I,rfl,.refl j,rep_bl.mpr rfl⟩
  ·rw[if_neg h]at ok;exact ok.elim
 |_=>exact ok.elim
noncomputable def GZ:D→Option Value
 |.non=>some (.type "NoneType")
 |.bl _=>some (.type "bool")
 |.int _=>some (.type "int")
 |.str _=>some (.type "str")
 |.lst _=>some (.type "list")
 |.tup _=>some (.type "tuple")
 |.ins _ _ _=>none
 |.dct _ _=>none
 |.scr _=>none
 |.xc C=>some (.ref C)
 |.fdc _ _=>none
noncomputable def lw (K:W.Frag)(c:Value)(d:D):Res D:=match GZ d with
 |some t=>match W.kitOne K t c with|some b=>.ok (.bl b)|none=>.bad
 |none=>.bad
theorem zK {A:Around}{u:Value}{c:Value}{d:D}{x:V}{b:Bool}{t:Value}{Q:Value→Shared→Prop}{E':Value→Shared→Prop}(I:Inv X pins σ H s)(hs:Same G H)(rx:Rep X.K G d x)(ru:RelV x u)(ht:GZ d=some t)(e:W.kitOne X.K t c=some b)(h:∀tk,Q (.bool b) {s with toks:=tk}) :
  wpAny (model X.prog X.w) A (call (.builtin "isinstance") [u,c]) Q E' s:=by
 have kv:=lx I hs rx ru;cases d with
 |non=>cases ht;cases (show u= .none from kv);exact W.kia_one W.kitx_none I.kIn True.intro e (fun z=>nomatch z) h
 |bl y=>cases ht;cases (show u= .bool y from kv);exact W.kia_one W.kitx_bool I.kIn True.intro e (fun z=>nomatch z) h
 |int i=>cases ht;obtain⟨t,rfl⟩:=kv;exact W.kia_one W.kitx_int I.kIn True.intro e (fun z=>nomatch z) h
 |str i=>cases ht;obtain⟨t,rfl⟩:=kv;exact W.kia_one W.kitx_str I.kIn True.intro e (fun z=>nomatch z) h
 |lst l=>
  cases ht;refine cps fun PP kP=>?_;refine m9 (kv) fun a its xs hS90 hS91 _=>?_;subst hS90;obtain⟨o,h1,h2,_⟩:=hS91;refine kP ?_;clear kP PP;exact W.kia_one W.kitx_list I.kIn ⟨o,h1,h2⟩ e (fun z=>nomatch z) h
 |tup l=>
  cases ht;refine cps fun PP kP=>?_;refine m9 (kv) fun a its xs hS92 hS93 _=>?_;subst hS92;obtain⟨o,h1,h2,_⟩:=hS93;refine kP ?_;clear kP PP;exact W.kia_one W.kitx_tuple I.kIn ⟨o,h1,h2⟩ e (fun z=>nomatch z) h
 |ins _ _ _=>cases ht
 |dct _ _=>cases ht
 |scr _=>cases ht
 |fdc _ _=>cases ht
 |xc C=>
  cases ht;rw[GA]at rx;refine cj (rx) fun a hS94 ha kk=>?_;subst hS94;cases (show u=Value.ref a from ru);obtain⟨p,_,_⟩:=(show ObjOk X.prog X.w H s.heap a (Ew a (.ref C)) from I.hok a _ (hs a _ ha));exact W.kia_one (zP kk) I.kIn p e (fun z=>nomatch z) h
theorem Gd {a c:Expr}{p pos:Pos}{fa:DS→Res D}{vc:V}(ha:PD X E a fa)(hcl:PE X c (tC vc))(hvc:cV vc≠ .none)(hg:Gl X "isinstance")(hm:X.mg "isinstance" =none)
  (hs1:starEach [a,c] X.env=(false,eval a X.env)::starEach [c] X.env:=by rfl) (hs2:starEach [c] X.env=(false,eval c X.env)::starEach [] X.env:=by rfl) (hpl:(backTo pos (starEach [c] X.env)).any (·.1)=false:=by rfl) :
  PD X E (.Call (.Name "isinstance" p) [a,c] [] pos) (fun ρ=>(fa ρ).bind (lw X.K (cV vc))):=by
 intro pins s σ G H ρ I hs hro ho;have hp:PA X [a,c] (w_ (tD X.K E fa) (w_ (tC vc) DJ)):=dG (fS ha) (dG hcl jD hs2) hs1;refine wpAny_Call_Name_kw (ju I hg hm PyProof.Rows.boot_isinstance ?_ (by decide) (by decide));refine PyProof.Rows.callWith_builtin1 (aO (hp pos pins s σ H (fun vs H'=>∃d x G',fa ρ= .ok d∧vs=[x,vc]∧Ext G H G' H'∧Rep X.K G' d x) I ?_) fun us s1 hZ133=>?_) hs1 hpl
 ·exact⟨G,ρ,hs,hro,ho.fst,fun d e v G1 H1 x1 rp=>(jb d v G1 e rfl x1 rp)⟩
 ·refine cps fun PP kP=>?_;obtain⟨vs,H1,I1,r1,d,x,G1,e1,e2,x1,rp⟩:=hZ133;subst e2;refine bA (Bh r1) fun u1 u2 hS95 q1 q2=>?_;subst hS95;refine kP ?_;clear kP PP;rw[EH q2 hvc];have k:=ho.snd e1 x1.hh;unfold lw at k;cases ht:GZ d with
  |none=>rw[ht]at k;exact k.elim
  |some t=>
   rw[ht]at k;dsimp only at k;cases hk:W.kitOne X.K t (cV vc) with
   |none=>rw[hk]at k;exact k.elim
   |some b=>exact zK I1 x1.gh rp q1 ht hk fun tk=>⟨.bl b,al e1 (by unfold lw;rw[ht];dsimp only;rw[hk]),.bl b,G1,H1,I1.tok tk,rfl,x1,rep_bl.mpr rfl⟩
end
end L2
namespace L2
open PySem PySem.Spec PyProof.Rows
noncomputable def Bu (K:W.Frag)(J:It)(ds:List D)(G:Hp):Prop:=∀(G2 H2:Hp),Same G G2→Same G2 H2→∀(i:Nat),
 (∀d,ds[i]?=some d→J.go i H2∧∀x H',J.yld i H2 x H'→∃G',Ext G2 H2 G' H'∧Rep K G' d x)∧(ds.length≤i→J.stop i H2)
inductive tDI (K:W.Frag)(E:XK)(fi:DS→Res (List D))(σ:St)(H:Hp)(R:It→Hp→Prop):Prop
 |mk (G:Hp) (ρ:DS) (s:Same G H) (r:Ro K G σ ρ) (o:OkR E H (fi ρ)) (k:∀ds,fi ρ= .ok ds→∀J G' H',Ext G H G' H'→Bu K J ds G'→R J H')
section
variable{X:Cx}{E:XK}{tg:Expr}
noncomputable def DB:D→Res (List D)
 |.lst l=>.ok l
 |_=>.bad
noncomputable def GM:D→Res (List D)
 |.tup l=>.ok l
 |_=>.bad
theorem A_ {K:W.Frag}{G:Hp}{a:Addr}{xs:List V}{ds:List D}(sq:gC K G a xs)(rl:RepL K G ds xs):Bu K (Ex K a) ds G:=by
 intro G2 H2 g1 g2 i;have sq2:gC K H2 a xs:=g2.seq (g1.seq sq);refine⟨fun d hd=>?_,fun hl=>⟨xs,sq2,by rw[←rl.length];exact hl⟩⟩;obtain⟨v,hv,rv⟩:=rl.get hd;refine⟨(l8 xs v sq2 hv),fun y H' hZ134=>?_⟩;obtain⟨e,h⟩:=hZ134;subst e;have q:=h xs sq2;rw[hv]at q;cases q;exact⟨G2,.refl g2,rv.mono g1⟩
theorem DF {K:W.Frag}{G:Hp}{a:Addr}{xs:List V}{ds:List D}(sq:nk K G a xs)(rl:RepL K G ds xs):Bu K (IR K a) ds G:=by
 intro G2 H2 g1 g2 i;have sq2:nk K H2 a xs:=g2.seqT (g1.seqT sq);refine⟨fun d hd=>?_,fun hl=>⟨xs,sq2,by rw[←rl.length];exact hl⟩⟩;obtain⟨v,hv,rv⟩:=rl.get hd;refine⟨(l8 xs v sq2 hv),fun y H' hZ135=>?_⟩;obtain⟨e,h⟩:=hZ135;subst e;have q:=h xs sq2;rw[hv]at q;cases q;exact⟨G2,.refl g2,rv.mono g1⟩
noncomputable def pf (lo:Int)(n:Nat):List D:=(List.range n).map fun (i:Nat)=>D.int (lo+(i:Int))
theorem mB {K:W.Frag}{G:Hp}(lo:Int)(n:Nat):Bu K (Ha lo n) (pf lo n) G:=by
 intro G2 H2 g1 g2 i;refine⟨fun d hd=>?_,fun hl=>(show n≤i by simpa [pf] using hl)⟩;unfold pf at hd;rw[getElem?_map]at hd;cases e:(List.range n)[i]? with
 |none=>rw[e]at hd;cases hd
 |some j=>
  rw[e]at hd;obtain⟨hj,rfl⟩:=cU e;cases hd;have hi:i<n:=by simpa using hj
  refine⟨hi,fun y H' hZ136=>?_⟩;obtain⟨e1,e2⟩:=hZ136;subst e1 e2;refine⟨G2,.refl g2,rep_int.mpr ?_⟩;rw[getElem_range]
theorem bv {e:Expr}{f:DS→Res D}(h:PD X E e f):PI X tg e (tDI X.K E (fun ρ=>(f ρ).bind DB)):=by
 intro pins s σ H R I hZ7;obtain⟨G,ρ,hs,hro,ho,k⟩:=hZ7;refine wJ (fS h) pins s σ H R I ⟨G,ρ,hs,hro,ho.fst,fun d e v G1 H1 x1 p1=>?_⟩;have kk:=ho.snd e x1.hh;cases d with
 |lst l=>
  rw[rep_lst]at p1;refine bA (p1) fun a xs hS96 sq rl=>?_;subst hS96;exact(gW a rfl ⟨xs,x1.gh.seq sq.sq⟩ (k l (al e rfl) (Ex X.K a) G1 H1 x1 (A_ sq.sq rl)))
 |_=>exact kk.elim
theorem Dc {e:Expr}{f:DS→Res D}(h:PD X E e f):PI X tg e (tDI X.K E (fun ρ=>(f ρ).bind GM)):=by
 intro pins s σ H R I hZ8;obtain⟨G,ρ,hs,hro,ho,k⟩:=hZ8;refine Go (fS h) pins s σ H R I ⟨G,ρ,hs,hro,ho.fst,fun d e v G1 H1 x1 p1=>?_⟩;have kk:=ho.snd e x1.hh;cases d with
 |tup l=>
  rw[rep_tup]at p1;refine bA (p1) fun a xs hS97 sq rl=>?_;subst hS97;exact(gW a rfl ⟨xs,x1.gh.seqT sq⟩ (k l (al e rfl) (IR X.K a) G1 H1 x1 (DF sq rl)))
 |_=>exact kk.elim
noncomputable def cT (i:Int):Bool:=decide (-(2 ^ 62)≤i)&&decide (i<2 ^ 62)
noncomputable def sd:List D→Res (List D)
 | [.int j]=>if cT j=true then .ok (pf 0 j.toNat) else .bad
 |_=>.bad
noncomputable def AO:List D→Res (List D)
 | [.int i,.int j]=>if (cT i&&cT j)=true then .ok (pf i (j-i).toNat) else .bad
 |_=>.bad
theorem kL {a:Expr}{p pos:Pos}{fs:DS→Res (List D)}(hg:Gl X "range")(hm:X.mg "range" =none)(ha:mW X E [a] fs)(hs:starEach [a] X.env=[(false,eval a X.env)]:=by rfl):PI X tg (.Call (.Name "range" p) [a] [] pos) (tDI X.K E (fun ρ=>(fs ρ).bind sd)):=by
 intro pins s σ H R I hZ9;obtain⟨G,ρ,hsm,hro,ho,k⟩:=hZ9;refine qx hg hm (jC ha) hs pins s σ H R I ⟨G,ρ,hsm,hro,ho.fst,fun ds e vs G1 H1 x1 p1=>?_⟩;have kk:=ho.snd e x1.hh;unfold sd at kk;split at kk
 ·rename_i j;refine bA (p1.inv) fun v r hS98 rv r0=>?_;subst hS98;rw[r0.inv0];rw[rep_int]at rv;subst rv;by_cases hj:cT j=true
  ·have hj':=hj;unfold cT at hj';rw[and_eq_true]at hj';exact(zH j rfl (of_decide_eq_true hj'.1) (of_decide_eq_true hj'.2) (k _ (al e (if_pos hj)) _ G1 H1 x1 (mB 0 j.toNat)))
  ·rw[if_neg hj]at kk;exact kk.elim
 ·exact kk.elim
theorem o_ {a b:Expr}{p pos:Pos}{fs:DS→Res (List D)}(hg:Gl X "range")(hm:X.mg "range" =none)(ha:mW X E [a,b] fs)(hs:starEach [a,b] X.env=[(false,eval a X.env),(false,eval b X.env)]:=by rfl)(hs2:starEach [b] X.env=[(false,eval b X.env)]:=by rfl):PI X tg (.Call (.Name "range" p) [a,b] [] pos) (tDI X.K E (fun ρ=>(fs ρ).bind AO)):=by
 intro pins s σ H R I hZ10;obtain⟨G,ρ,hsm,hro,ho,k⟩:=hZ10;refine yn hg hm (jC ha) hs hs2 pins s σ H R I ⟨G,ρ,hsm,hro,ho.fst,fun ds e vs G1 H1 x1 p1=>?_⟩;have kk:=ho.snd e x1.hh;unfold AO at kk;split at kk
 ·rename_i i j;refine cps fun PP kP=>?_;refine bA (p1.inv) fun v r hS99 rv r0=>?_;subst hS99;refine bA (r0.inv) fun v2 r2 hS100 rv2 r02=>?_;subst hS100;refine kP ?_;clear kP PP;rw[r02.inv0];rw[rep_int]at rv rv2;subst rv rv2;by_cases hj:(cT i&&cT j)=true
  ·have hj':=hj;unfold cT at hj';rw[and_eq_true,and_eq_true,and_eq_true]at hj';exact(dR i j rfl (m3 (of_decide_eq_true hj'.1.1) (of_decide_eq_true hj'.1.2) (of_decide_eq_true hj'.2.1) (of_decide_eq_true hj'.2.2)) (k _ (al e (if_pos hj)) _ G1 H1 x1 (mB i (j-i).toNat)))
  ·rw[if_neg hj]at kk;exact kk.elim
 ·exact kk.elim
noncomputable def bB (t:D→Res Bool)(f:D→Res D):List D→Res (List D)
 | []=>.ok []
 |d::ds=>match t d with
  |.ok true=>(match f d with
   |.ok e=>(bB t f ds).bind fun es=>.ok (e::es)
   |_=>.bad)
  |.ok false=>bB t f ds
  |_=>.bad
theorem xG {t:D→Res Bool}{f:D→Res D}:∀{as bs es:List D},bB t f (as ++ bs)= .ok es→∃e1 e2,bB t f as= .ok e1∧bB t f bs= .ok e2∧es=e1 ++ e2:=by
 intro l_
 induction l_ with
 |nil=>
  rintro bs es h;exact(dR ([]) es rfl h rfl)
 |cons a as ihh=>
  rintro bs es h;rw[cons_append]at h;unfold bB at h;cases ht:t a with
  |bad=>rw[ht]at h;cases h
  |exc c=>rw[ht]at h;cases h
  |ok b=>
   rw[ht]at h;cases b with
   |false=>
    refine bA (ihh h) fun e1 e2 h1 h2 h3=>?_;exact(dR e1 e2 (by unfold bB;rw[ht];exact h1) h2 h3)
   |true=>
    cases hf:f a with
    |bad=>rw[hf]at h;cases h
    |exc c=>rw[hf]at h;cases h
    |ok e=>
     rw[hf]at h;dsimp only at h;cases hr:bB t f (as ++ bs) with
     |bad=>rw[hr]at h;cases h
     |exc c=>rw[hr]at h;cases h
     |ok es'=>
      rw[hr]at h;have h':Res.ok (e::es')=Res.ok es:=h;cases h';refine bA (ihh hr) fun e1 e2 h1 h2 h3=>?_;subst h3;exact(dR (e::e1) e2 (by unfold bB;rw[ht,hf];dsimp only;rw[h1];rfl) h2 rfl)
theorem xH {t:D→Res Bool}{f:D→Res D}:∀{as es:List D},bB t f as= .ok es→es.length≤as.length:=by
 intro l_
 induction l_ with
 |nil=>
  rintro es h;exact by unfold bB at h;cases h;exact le_refl _
 |cons a as ihh=>
  rintro es h;unfold bB at h;cases ht:t a with
  |bad=>rw[ht]at h;cases h
  |exc c=>rw[ht]at h;cases h
  |ok b=>
   rw[ht]at h;cases b with
   |false=>exact Nat.le_succ_of_le (ihh h)
   |true=>
    cases hf:f a with
    |bad=>rw[hf]at h;cases h
    |exc c=>rw[hf]at h;cases h
    |ok e=>
     rw[hf]at h;dsimp only at h;cases hr:bB t f as with
     |bad=>rw[hr]at h;cases h
     |exc c=>rw[hr]at h;cases h
     |ok es'=>
      rw[hr]at h;have h':Res.ok (e::es')=Res.ok es:=h;cases h';have:=ihh hr;rw[length_cons,length_cons];omega
noncomputable def dn (caps:List (Option Nat))(ρ:DS):DS:=caps.map fun o=>o.bind fun k=>(ρ[k]?).join
theorem BF {K:W.Frag}{G:Hp}{σ:St}{ρ:DS}{caps:List (Option Nat)}(h:Ro K G σ ρ):Ro K G (fz caps σ) (dn caps ρ):=by
 intro i d e;unfold dn at e;rw[getElem?_map]at e;unfold fz;rw[getElem?_map];cases q:caps[i]? with
 |none=>rw[q]at e;cases e
 |some o=>
  rw[q]at e;cases o with
  |none=>simp at e
  |some k=>
   simp only[map_some,bind_some,Option.some.injEq]at e ⊢;cases q2:ρ[k]? with
   |none=>rw[q2]at e;simp at e
   |some o2=>
    rw[q2]at e;simp at e;subst e;obtain⟨v,hv,rv⟩:=h k d q2;exact⟨v,by rw[hv];rfl,rv⟩
theorem Ro.set {K:W.Frag}{G:Hp}{σ:St}{ρ:DS}{j:Nat}{v:V}{d:D}(h:Ro K G σ ρ)(hj:j<σ.length)(r:Rep K G d v):Ro K G (σ.set j (some v)) (ρ.set j (some d)):=by
 intro i e q;by_cases hi:i=j
 ·subst hi;by_cases hl:i<ρ.length
  ·rw[getElem?_set_self hl]at q;cases q;exact⟨v,getElem?_set_self hj,r⟩
  ·rw[getElem?_eq_none (by simpa using hl)]at q;cases q
 ·rw[getElem?_set_ne (Ne.symm hi)]at q ⊢;exact h i e q
noncomputable abbrev qJ:XK:=fun _ _ _=>False
noncomputable def xh (X:Cx)(E:XK)(ifs:List Expr)(f:DS→Res Bool):Prop:=GW X ifs (tDT X.K E f)
theorem bg:xh X E [] (fun _=>.ok true):=fun pins s σ H Q I hZ137=>(by obtain⟨G,ρ,hs,hr,ho,k⟩:=hZ137;exact Df pins s σ H Q I (k true rfl G H (.refl hs)))
theorem lC {c:Expr}{f:DS→Res Bool}(h:uG X E c f):xh X E [c] f:=Dg (Jx h)
end
section
variable{X:Cx}{E:XK}
noncomputable def allInts:List D→Option (List Int)
 | []=>some []
 |.int i::ds=>(allInts ds).map (i::·)
 |_=>none
theorem iA:∀{ds:List D} {ns:List Int},allInts ds=some ns→ds=ns.map D.int:=by
 intro l_
 induction l_ with
 |nil=>
  rintro ns h;exact by unfold allInts at h;cases h;rfl
 |cons d ds ihh=>
  rintro ns h;cases d with
  |int i=>
   unfold allInts at h;cases q:allInts ds with
   |none=>rw[q]at h;cases h
   |some ms=>rw[q]at h;cases h;rw[ihh q];rfl
  |_=>unfold allInts at h;cases h
theorem gi:∀(ns:List Int),allInts (ns.map D.int)=some ns:=by
 intro l_
 induction l_ with
 |nil=>
  exact rfl
 |cons n ns ihh=>
  exact by show (allInts (ns.map D.int)).map (n::·)=_;rw[ihh];rfl
noncomputable def mi:List Int→Int
 | []=>0
 | [a]=>a
 |a::as=>min a (mi as)
noncomputable def j0:List Int→Int
 | []=>0
 | [a]=>a
 |a::as=>max a (j0 as)
theorem mj:∀{ns:List Int},ns≠[]→mi ns∈ns∧∀a∈ns,mi ns≤a
 | [],h=>absurd rfl h
 | [a],_=>⟨mem_singleton.mpr rfl,fun b hb=>by rw[mem_singleton.mp hb];exact Int.le_refl _⟩
 |a::b::r,_=>by
  obtain⟨h1,h2⟩:=mj (ns:=b::r) (by simp);show min a (mi (b::r))∈_∧_;refine⟨?_,fun c hc=>?_⟩
  ·by_cases h:a≤mi (b::r)
   ·rw[Int.min_eq_left h];exact mem_cons_self
   ·rw[Int.min_eq_right (by omega)];exact cR h1
  ·show min a (mi (b::r))≤c
   rcases mem_cons.mp hc with rfl|hc
   ·exact Int.min_le_left _ _
   ·exact Int.le_trans (Int.min_le_right _ _) (h2 c hc)
theorem jT:∀{ns:List Int},ns≠[]→j0 ns∈ns∧∀a∈ns,a≤j0 ns
 | [],h=>absurd rfl h
 | [a],_=>⟨mem_singleton.mpr rfl,fun b hb=>by rw[mem_singleton.mp hb];exact Int.le_refl _⟩
 |a::b::r,_=>by
  obtain⟨h1,h2⟩:=jT (ns:=b::r) (by simp);show max a (j0 (b::r))∈_∧_;refine⟨?_,fun c hc=>?_⟩
  ·by_cases h:j0 (b::r)≤a
   ·rw[Int.max_eq_left h];exact mem_cons_self
   ·rw[Int.max_eq_right (by omega)];exact cR h1
  ·show c≤max a (j0 (b::r))
   rcases mem_cons.mp hc with rfl|hc
   ·exact Int.le_max_left _ _
   ·exact Int.le_trans (h2 c hc) (Int.le_max_right _ _)
noncomputable def pT:List D→Res D
 | [.lst l]=>match allInts l with|some (n::ns)=>.ok (.int (mi (n::ns)))|_=>.bad
 |_=>.bad
noncomputable def pS:List D→Res D
 | [.lst l]=>match allInts l with|some (n::ns)=>.ok (.int (j0 (n::ns)))|_=>.bad
 |_=>.bad
theorem xo (hc:X.calm=true):eD X (.builtin "min") (fun xs H Q=>∃p ns,xs=[.ref p]∧gC X.K H p (ns.map V.int)∧ns≠[]∧Q (.int (mi ns)) H):=by
 intro pins s σ H xs us Q I r h;refine cps fun PP kP=>?_;refine pG (h) fun p ns hS101 sq hne q=>?_;subst hS101;obtain⟨u,rfl,ru⟩:=ke r;refine kP ?_;clear kP PP;cases (show u= .ref p from ru);refine cj (I.list sq) fun its rv pl _=>?_;have hi:=fF rv;obtain⟨ys,e⟩:=hi.allInts.items;have L:ns=ys.toList.map (·.1):=by rw[←hi.numsOf,←nums_intItems,←e]
 have hsz:0<ys.size:=by
  have h3:0<ns.length:=length_pos_iff.mpr hne;rw[L,length_map,length_toList]at h3;exact h3
 have hl:=pl.isList;rw[e]at hl;refine min_intList (I.ok.hd hc) hl hsz fun v h' tk hv hk=>?_;obtain⟨t,rfl⟩:=intItems_at hv;obtain⟨h1,h2⟩:=argBest_lt (numAt ys) (ys.size-1);have hm:numAt ys (argBest (fun i j=>decide (numAt ys i<numAt ys j)) (ys.size-1))=mi ns:=by
  obtain⟨m1,m2⟩:=mj hne;refine Int.le_antisymm ?_ (m2 _ ?_)
  ·rw[L]at m1;obtain⟨j,hj,ej⟩:=mem_getD m1;rw[length_map,length_toList]at hj;rw[←L]at ej;rw[←ej,L,←numAt_eq];exact h2 j (by omega)
  ·rw[L,numAt_eq];exact getD_mem (by rw[length_map,length_toList];omega)
 rw[hm];exact⟨.int (mi ns),H,I.kept hk,⟨t,rfl⟩,q⟩
theorem xm (hc:X.calm=true):eD X (.builtin "max") (fun xs H Q=>∃p ns,xs=[.ref p]∧gC X.K H p (ns.map V.int)∧ns≠[]∧Q (.int (j0 ns)) H):=by
 intro pins s σ H xs us Q I r h;refine cps fun PP kP=>?_;refine pG (h) fun p ns hS102 sq hne q=>?_;subst hS102;obtain⟨u,rfl,ru⟩:=ke r;refine kP ?_;clear kP PP;cases (show u= .ref p from ru);refine cj (I.list sq) fun its rv pl _=>?_;have hi:=fF rv;obtain⟨ys,e⟩:=hi.allInts.items;have L:ns=ys.toList.map (·.1):=by rw[←hi.numsOf,←nums_intItems,←e]
 have hsz:0<ys.size:=by
  have h3:0<ns.length:=length_pos_iff.mpr hne;rw[L,length_map,length_toList]at h3;exact h3
 have hl:=pl.isList;rw[e]at hl;refine max_intList (I.ok.hd hc) hl hsz fun v h' tk hv hk=>?_;obtain⟨t,rfl⟩:=intItems_at hv;obtain⟨h1,h2⟩:=argBest_gt (numAt ys) (ys.size-1);have hm:numAt ys (argBest (fun i j=>decide (numAt ys i>numAt ys j)) (ys.size-1))=j0 ns:=by
  obtain⟨m1,m2⟩:=jT hne;refine Int.le_antisymm (m2 _ ?_) ?_
  ·rw[L,numAt_eq];exact getD_mem (by rw[length_map,length_toList];omega)
  ·rw[L]at m1;obtain⟨j,hj,ej⟩:=mem_getD m1;rw[length_map,length_toList]at hj;rw[←L]at ej;rw[←ej,L,←numAt_eq];exact h2 j (by omega)
 rw[hm];exact⟨.int (j0 ns),H,I.kept hk,⟨t,rfl⟩,q⟩
theorem BL {K:W.Frag}:Bo K E (fun xs H Q=>∃p ns,xs=[.ref p]∧gC K H p (ns.map V.int)∧ns≠[]∧Q (.int (mi ns)) H) pT:=by
 intro G H vs ds Q hs rl ok k;unfold pT at ok k;split at ok
 ·rename_i l;obtain⟨v,r,rfl,rx,r0⟩:=rl.inv;rw[r0.inv0];rw[rep_lst]at rx;obtain⟨p,xs,rfl,sq,rx⟩:=rx;dsimp only at k;cases q:allInts l with
  |none=>rw[q]at ok;exact ok.elim
  |some ns=>
   cases ns with
   |nil=>rw[q]at ok;exact ok.elim
   |cons n ns=>
    rw[q]at k;have e:=iA q;subst e;have ex:=rx.ints;subst ex;exact⟨p,n::ns,rfl,hs.seq sq.sq,by simp,k _ _ G H rfl (.refl hs) (rep_int.mpr rfl)⟩
 ·exact ok.elim
theorem BK {K:W.Frag}:Bo K E (fun xs H Q=>∃p ns,xs=[.ref p]∧gC K H p (ns.map V.int)∧ns≠[]∧Q (.int (j0 ns)) H) pS:=by
 intro G H vs ds Q hs rl ok k;unfold pS at ok k;split at ok
 ·rename_i l;obtain⟨v,r,rfl,rx,r0⟩:=rl.inv;rw[r0.inv0];rw[rep_lst]at rx;obtain⟨p,xs,rfl,sq,rx⟩:=rx;dsimp only at k;cases q:allInts l with
  |none=>rw[q]at ok;exact ok.elim
  |some ns=>
   cases ns with
   |nil=>rw[q]at ok;exact ok.elim
   |cons n ns=>
    rw[q]at k;have e:=iA q;subst e;have ex:=rx.ints;subst ex;exact⟨p,n::ns,rfl,hs.seq sq.sq,by simp,k _ _ G H rfl (.refl hs) (rep_int.mpr rfl)⟩
 ·exact ok.elim
noncomputable def se (hi:Int)(n:Nat):List D:=(List.range n).map fun (i:Nat)=>D.int (hi-(i:Int))
theorem pQ {a b c:Int}{t u v:Tok}{n:Nat}{r:Addr}{pins:List (Addr×Obj)}{σ:St}{H:Hp}{s:Shared}{Q:VK}(hc:X.calm=true)(I:Inv X pins σ H s)(hr:IsRange s.heap r a b c t u v)(hsm:Builtin.Range.small a b c=true)(hn:Builtin.Range.rangeSize a b c=n)(hz:n≤100000)
  (q:∀p,H p=none→Q (.ref p) (bo H p (.lst ((List.range n).map fun (i:Nat)=>V.int (a+(i:Int)*c))))):wpAny (model X.prog X.w) X.A (call (.type "list") [.ref r]) (EP X pins σ Q) X.xe s:=by
 refine call_list_range (I.ok.hd hc) hr hsm hn (le_trans hz (by decide)) fun h' tk acc c' hk hD hI=>?_;obtain⟨h1,h2⟩:=hI;have hv:Vals ((List.range n).map fun (i:Nat)=>V.int (a+(i:Int)*c)) acc.toList:=by
  have aux:∀(m:Nat) (f:Nat→V) (l:List Value),l.length=m→(∀j u,l[j]?=some u→RelV (f j) u)→Vals ((List.range m).map f) l:=by
   intro m
   induction m with
   |zero=>
    intro f l hl _;cases l with
    |nil=>exact .nil
    |cons x xs=>simp at hl
   |succ m ih=>
    intro f l hl h;cases l with
    |nil=>simp at hl
    |cons x xs=>
     rw[List.range_succ_eq_map,map_cons,map_map];exact .cons (h 0 x rfl) (ih (f ∘ Nat.succ) xs (by simpa using hl) fun j u e=>h (j+1) u (by simpa using e))
  refine aux n _ acc.toList (by simpa using h1) fun j u e=>?_;obtain⟨t',rfl⟩:=h2 j u (by simpa using e);exact⟨t',rfl⟩
 refine⟨.ref s.heap.objs.size,_,I.laid (o:=.lst ((List.range n).map fun (i:Nat)=>V.int (a+(i:Int)*c))) hk (le_refl _) (oB ?_ acc.toList c' hv ?_),rfl,q _ (I.hok.fresh (le_refl _))⟩
 ·rw[length_map,length_range];exact le_trans hz (by decide)
 ·rw[hD]
theorem jo {i:Int}(h1: -(2 ^ 62)≤i)(h2:i≤2 ^ 62):Builtin.Range.rangeFitsLong i=true:=by
 unfold Builtin.Range.rangeFitsLong;simp only[and_eq_true,decide_eq_true_eq];omega
theorem qA {a b:Int}:Builtin.Range.rangeSize a b (-1)=((a-b).toNat:Int):=by
 unfold Builtin.Range.rangeSize;rw[if_neg (by decide)];split
 ·have:(-(-1:Int))=1:=by decide
  rw[this,Int.ediv_one];omega
 ·omega
theorem qB {a b c:Int}(h1: -(2 ^ 60)≤a)(h2:a<2 ^ 60)(h3: -(2 ^ 60)≤b)(h4:b<2 ^ 60)(hc:c=1∨c= -1):Builtin.Range.small a b c=true:=by
 rcases hc with rfl|rfl
 ·exact small_one (by omega) (by omega) (by omega) (by omega)
 ·unfold Builtin.Range.small;rw[qA,jo (i:=a) (by omega) (by omega),jo (i:=b) (by omega) (by omega),jo (i:= -1) (by decide) (by decide),jo (i:=((a-b).toNat:Int)) (by omega) (by omega)];rw[if_neg (by decide),jo (i:=b+(-1+1)) (by omega) (by omega)];simp
noncomputable def uL (p:Addr)(a b c:Int):HO:=.ext fun h=>∃t u v,IsRange h p a b c t u v
theorem Inv.rng {pins:List (Addr×Obj)}{σ:St}{H:Hp}{s:Shared}{a b c:Int}{t u v:Tok}{tk:Nat}(I:Inv X pins σ H s):Inv X pins σ (bo H s.heap.objs.size (uL s.heap.objs.size a b c)) {s with heap:=s.heap.push {cls:=.type "range",data:=.fields #[.int a t,.int b u,.int c v]},toks:=tk}:=
 I.laid (fun b o e=>Heap.get?_push_of_some _ e) (le_refl _) ⟨⟨t,u,v,Heap.get?_push_size _ rfl⟩,⟨_,Heap.get?_push_size _ rfl⟩,fun h1 h2 ⟨t,u,v,e⟩ k=>⟨t,u,v,k _ e⟩⟩
theorem sO:eD X (.type "range") (fun xs H Q=>∃i j,xs=[.int i,.int j]∧∀p,H p=none→Q (.ref p) (bo H p (uL p i j 1))):=by
 intro pins s σ H xs us Q I r h;refine cps fun PP kP=>?_;refine mV (h) fun i j hS103 q=>?_;subst hS103;refine bA (Bh r) fun u1 u2 hS104 hS105 hS106=>?_;subst hS104;obtain⟨t1,rfl⟩:=hS105;obtain⟨t2,rfl⟩:=hS106;refine kP ?_;clear kP PP;exact call_range_2 ⟨.ref s.heap.objs.size,_,I.rng,rfl,q _ (I.hok.fresh (le_refl _))⟩
theorem IJ {x y z:V}{us:List Value}(r:Vals [x,y,z] us):∃u v w,us=[u,v,w]∧RelV x u∧RelV y v∧RelV z w:=by
 cases r with
 |cons a b=>cases b with
  |cons c d=>cases d with
   |cons e f=>cases f;exact(jb _ _ _ rfl a c e)
theorem sP:eD X (.type "range") (fun xs H Q=>∃i j,xs=[.int i,.int j,.int (-1)]∧∀p,H p=none→Q (.ref p) (bo H p (uL p i j (-1)))):=by
 intro pins s σ H xs us Q I r h;refine cps fun PP kP=>?_;refine mV (h) fun i j hS107 q=>?_;subst hS107;refine ja (IJ r) fun u1 u2 u3 hS108 hS109 hS110 hS111=>?_;subst hS108;obtain⟨t1,rfl⟩:=hS109;obtain⟨t2,rfl⟩:=hS110;obtain⟨t3,rfl⟩:=hS111;refine kP ?_;clear kP PP;exact call_range_3 (by decide) ⟨.ref s.heap.objs.size,_,I.rng (tk:=s.toks),rfl,q _ (I.hok.fresh (le_refl _))⟩ (.inl (PyProof.noPylong_small (by decide)))
theorem k8 (hc:X.calm=true):eD X (.type "list") (fun xs H Q=>∃p a b c n,xs=[.ref p]∧H p=some (uL p a b c)∧Builtin.Range.small a b c=true∧Builtin.Range.rangeSize a b c=((n:Nat):Int)∧n≤100000∧∀l,H l=none→Q (.ref l) (bo H l (.lst ((List.range n).map fun (i:Nat)=>V.int (a+(i:Int)*c))))):=by
 intro pins s σ H xs us Q I r h;refine cps fun PP kP=>?_;refine GT (h) fun p a b c n hS112 hp hsm hn hz q=>?_;subst hS112;obtain⟨u,rfl,ru⟩:=ke r;refine kP ?_;clear kP PP;cases (show u= .ref p from ru);obtain⟨⟨t,u,v,e⟩,_,_⟩:=(show ObjOk X.prog X.w H s.heap p (uL p a b c) from I.hok p _ hp);exact pQ hc I e hsm hn hz q
noncomputable def i4 (i:Int):Bool:=decide (-(2 ^ 60)≤i)&&decide (i<2 ^ 60)
noncomputable def qr:List D→Res D
 | [.int i,.int j]=>if (i4 i&&i4 j&&aS (j-i).toNat)=true then .ok (.lst (pf i (j-i).toNat)) else .bad
 |_=>.bad
noncomputable def qu:List D→Res D
 | [.int i,.int j,.int k]=>if (i4 i&&i4 j&&aS (i-j).toNat&&decide (k= -1))=true then .ok (.lst (se i (i-j).toNat)) else .bad
 |_=>.bad
theorem uf {K:W.Frag}{G:Hp}{f:Nat→D}{g:Nat→V}(h:∀i,Rep K G (f i) (g i)):∀(l:List Nat),RepL K G (l.map f) (l.map g):=by
 intro l_
 induction l_ with
 |nil=>
  exact .nil
 |cons a r ihh=>
  exact .cons (h a) (ihh)
theorem vy {a b:Expr}{p1 p2 pos1 pos2:Pos}{fs:DS→Res (List D)}(hc:X.calm=true)(hgl:Gl X "list")(hml:X.mg "list" =none)(hg:Gl X "range")(hm:X.mg "range" =none)(ha:mW X E [a,b] fs)
  (hs:starEach [a,b] X.env=(false,eval a X.env)::starEach [b] X.env:=by rfl) (hpl:(backTo pos2 (starEach [b] X.env)).any (·.1)=false:=by rfl)
  (hs3:starEach [.Call (.Name "range" p2) [a,b] [] pos2] X.env=(false,eval (.Call (.Name "range" p2) [a,b] [] pos2) X.env)::starEach [] X.env:=by rfl) :
  PD X E (.Call (.Name "list" p1) [.Call (.Name "range" p2) [a,b] [] pos2] [] pos1) (bL fs qr):=by
 intro pins s σ G H ρ I hsm hro ho;have he:=fg (pos:=pos1) (p:=p1) (k8 hc) hgl hml PyProof.Rows.boot_list (dG (fg (pos:=pos2) (p:=p2) sO hg hm boot_range (jC ha) (by decide) (by decide) hs hpl) jD hs3) (by decide) (by decide) hs3 rfl;refine aO (he pins s σ H (fun v H'=>∃d G',bL fs qr ρ= .ok d∧Ext G H G' H'∧Rep X.K G' d v) I ?_) fun u s' hZ138=>(by obtain⟨v,H',I',r,d,G',e,xx,rp⟩:=hZ138;exact⟨d,e,v,G',H',I',r,xx,rp⟩);refine⟨G,ρ,hsm,hro,ho.fst,fun ds e vs G1 H1 x1 p1=>?_⟩;have kk:=ho.snd e x1.hh;unfold qr at kk;split at kk
 ·rename_i i j;refine cps fun PP kP=>?_;refine bA (p1.inv) fun v r hS113 rv r0=>?_;subst hS113;refine bA (r0.inv) fun v2 r2 hS114 rv2 r02=>?_;subst hS114;refine kP ?_;clear kP PP;rw[r02.inv0];rw[rep_int]at rv rv2;subst rv rv2;by_cases hj:(i4 i&&i4 j&&aS (j-i).toNat)=true
  ·have hj':=hj;unfold i4 at hj';simp only[and_eq_true,decide_eq_true_eq]at hj';obtain⟨⟨⟨a1,a2⟩,b1,b2⟩,l1⟩:=hj';refine(l8 i j rfl (fun p hp=>(Fy p i j 1 ((j-i).toNat) rfl au (qB a1 a2 b1 b2 (.inl rfl)) (by rw[rangeSize_one];split <;> omega) (of_decide_eq_true l1) (fun l hl=>?_))));have x2:=x1.trans (Ext.new x1.gh hp (uL p i j 1));have x3:=x2.trans (Ext.new x2.gh hl (.lst ((List.range (j-i).toNat).map fun (k:Nat)=>V.int (i+(k:Int)*1))));refine(dR _ _ (al e (if_pos hj)) x3 (rep_lst.mpr (dR l _ rfl (.of au) (uf (fun k=>rep_int.mpr (by rw[Int.mul_one])) _))))
  ·rw[if_neg hj]at kk;exact kk.elim
 ·exact kk.elim
theorem vz {a b c:Expr}{p1 p2 pos1 pos2:Pos}{fs:DS→Res (List D)}(hc:X.calm=true)(hgl:Gl X "list")(hml:X.mg "list" =none)(hg:Gl X "range")(hm:X.mg "range" =none)(ha:mW X E [a,b,c] fs)
  (hs:starEach [a,b,c] X.env=(false,eval a X.env)::starEach [b,c] X.env:=by rfl) (hpl:(backTo pos2 (starEach [b,c] X.env)).any (·.1)=false:=by rfl)
  (hs3:starEach [.Call (.Name "range" p2) [a,b,c] [] pos2] X.env=(false,eval (.Call (.Name "range" p2) [a,b,c] [] pos2) X.env)::starEach [] X.env:=by rfl) :
  PD X E (.Call (.Name "list" p1) [.Call (.Name "range" p2) [a,b,c] [] pos2] [] pos1) (bL fs qu):=by
 intro pins s σ G H ρ I hsm hro ho;have he:=fg (pos:=pos1) (p:=p1) (k8 hc) hgl hml PyProof.Rows.boot_list (dG (fg (pos:=pos2) (p:=p2) sP hg hm boot_range (jC ha) (by decide) (by decide) hs hpl) jD hs3) (by decide) (by decide) hs3 rfl;refine aO (he pins s σ H (fun v H'=>∃d G',bL fs qu ρ= .ok d∧Ext G H G' H'∧Rep X.K G' d v) I ?_) fun u s' hZ139=>(by obtain⟨v,H',I',r,d,G',e,xx,rp⟩:=hZ139;exact⟨d,e,v,G',H',I',r,xx,rp⟩);refine⟨G,ρ,hsm,hro,ho.fst,fun ds e vs G1 H1 x1 p1=>?_⟩;have kk:=ho.snd e x1.hh;unfold qu at kk;split at kk
 ·rename_i i j k;refine cps fun PP kP=>?_;refine bA (p1.inv) fun v r hS115 rv r0=>?_;subst hS115;refine bA (r0.inv) fun v2 r2 hS116 rv2 r02=>?_;subst hS116;refine bA (r02.inv) fun v3 r3 hS117 rv3 r03=>?_;subst hS117;refine kP ?_;clear kP PP;rw[r03.inv0];rw[rep_int]at rv rv2 rv3;subst rv rv2 rv3;by_cases hj:(i4 i&&i4 j&&aS (i-j).toNat&&decide (k= -1))=true
  ·have hj':=hj;unfold i4 at hj';simp only[and_eq_true,decide_eq_true_eq]at hj';obtain⟨⟨⟨⟨a1,a2⟩,b1,b2⟩,l1⟩,rfl⟩:=hj';refine⟨i,j,rfl,fun p hp=>⟨p,i,j,-1,(i-j).toNat,rfl,au,qB a1 a2 b1 b2 (.inr rfl),qA,of_decide_eq_true l1,fun l hl=>?_⟩⟩;have x2:=x1.trans (Ext.new x1.gh hp (uL p i j (-1)));have x3:=x2.trans (Ext.new x2.gh hl (.lst ((List.range (i-j).toNat).map fun (k:Nat)=>V.int (i+(k:Int)*(-1)))));refine(dR _ _ (al e (if_pos hj)) x3 (rep_lst.mpr (dR l _ rfl (.of au) (uf (fun k=>rep_int.mpr (by congr 1;omega)) _))))
  ·rw[if_neg hj]at kk;exact kk.elim
 ·exact kk.elim
noncomputable def BH (l:List D)(lo hi:Option Int):List D:=(l.drop (HT.cS l.length 0 lo)).take (HT.cS l.length l.length hi-HT.cS l.length 0 lo)
theorem wd {K:W.Frag}{G:Hp}{ds:List D}{xs:List V}(h:RepL K G ds xs)(lo hi:Option Int):RepL K G (BH ds lo hi) (sV xs lo hi):=by
 unfold BH sV;rw[←h.length];exact(h.drop _).take _
noncomputable def kR (lo hi:Option Int):D→Res D
 |.lst l=>.ok (.lst (BH l lo hi))
 |.tup l=>if HT.cS l.length 0 lo=0∧HT.cS l.length l.length hi=l.length then .bad else .ok (.tup (BH l lo hi))
 |_=>.bad
inductive tPO (K:W.Frag)(E:XK)(f:DS→Res (Option Int))(σ:St)(H:Hp)(Q:Option Int→Hp→Prop):Prop
 |mk (G:Hp) (ρ:DS) (s:Same G H) (r:Ro K G σ ρ) (ok:OkR E H (f ρ)) (k:∀o,f ρ= .ok o→∀G' H',Ext G H G' H'→Q o H')
noncomputable def Hd (X:Cx)(E:XK)(e:Option Expr)(f:DS→Res (Option Int)):Prop:=PO X e (tPO X.K E f)
theorem lD:Hd X E none (fun _=>.ok none):=fun pins s σ H Q I hZ140=>(by obtain⟨G,ρ,hs,hr,ho,k⟩:=hZ140;exact Do pins s σ H Q I (k none rfl G H (.refl hs)))
noncomputable def Jh:D→Res (Option Int)
 |.int i=>.ok (some i)
 |_=>.bad
theorem lE {e:Expr}{f:DS→Res D}(h:PD X E e f):Hd X E (some e) (fun ρ=>(f ρ).bind Jh):=by
 intro pins s σ H Q I hZ11;obtain⟨G,ρ,hs,hr,ho,k⟩:=hZ11;refine Dp (fS h) pins s σ H Q I ⟨G,ρ,hs,hr,ho.fst,fun d e v G1 H1 x1 p1=>?_⟩;have kk:=ho.snd e x1.hh;cases d with
 |int i=>rw[rep_int]at p1;exact⟨i,p1,k (some i) (al e rfl) G1 H1 x1⟩
 |_=>exact kk.elim
noncomputable def GF (f:DS→Res D)(lo hi:DS→Res (Option Int)):DS→Res D:=fun ρ=>(f ρ).bind fun d=>(lo ρ).bind fun l=>(hi ρ).bind fun u=>kR l u d
theorem lB {e:Expr}{lo hi:Option Expr}{p2 pos:Pos}{f:DS→Res D}{fl fh:DS→Res (Option Int)}(he:PD X E e f)(hl:Hd X E lo fl)(hh:Hd X E hi fh):PD X E (.Subscript e (.Slice lo hi none p2) pos) (GF f fl fh):=by
 intro pins s σ G H ρ I hsm hro ho;have hp:=Aw (pos:=pos) (p2:=p2) (sl_list.or GG) (fS he) hl hh;refine aO (hp pins s σ H (fun v H'=>∃d G',GF f fl fh ρ= .ok d∧Ext G H G' H'∧Rep X.K G' d v) I ?_) fun u s' hZ141=>(by obtain⟨v,H',I',r,d,G',e,xx,rp⟩:=hZ141;exact⟨d,e,v,G',H',I',r,xx,rp⟩);refine⟨G,ρ,hsm,hro,ho.fst,fun d e v G1 H1 x1 p1=>?_⟩;have k1:=ho.snd e x1.hh;refine⟨G1,ρ,x1.gh,hro.mono x1.gg,k1.fst,fun l el G2 H2 x2=>?_⟩;have k2:=k1.snd el x2.hh;refine⟨G2,ρ,x2.gh,(hro.mono x1.gg).mono x2.gg,k2.fst,fun u eu G3 H3 M=>?_⟩;have k3:=k2.snd eu M.hh;have x13:=(x1.trans x2).trans M;have p3:=p1.mono (x2.gg.trans M.gg);cases d with
 |lst ds=>
  rw[rep_lst]at p3;refine bA (p3) fun a xs hS118 sq rl=>?_;subst hS118;exact .inl (dR a xs rfl (M.gh.seq sq.sq) (fun p hp=>(dR _ _ (al e (al el (al eu rfl))) (x13.trans (.new M.gh hp _)) (rep_lst.mpr (dR p _ rfl (.of au) ((wd rl l u).mono (Ext.new M.gh hp _).gg))))))
 |tup ds=>
  rw[rep_tup]at p3;refine bA (p3) fun a xs hS119 sq rl=>?_;subst hS119;unfold kR at k3;dsimp only at k3;by_cases hw:HT.cS ds.length 0 l=0∧HT.cS ds.length ds.length u=ds.length
  ·rw[if_pos hw]at k3;exact k3.elim
  ·exact .inr (l9 a xs rfl (M.gh.seqT sq) (by rw[←rl.length];exact hw) (fun p hp=>(dR _ _ (al e (al el (al eu (if_neg hw)))) (x13.trans (.new M.gh hp _)) (rep_tup.mpr (dR p _ rfl (.of au) ((wd rl l u).mono (Ext.new M.gh hp _).gg))))))
 |_=>exact k3.elim
end
inductive Out where
 |nx (ρ:DS)|rt (d:D)|bk (ρ:DS)|ct (ρ:DS)|exc (c:Addr)|bad
noncomputable def OkO (E:XK)(H:Hp):Out→Prop
 |.exc c=>∀H',Same H H'→E (.ref c) none H'
 |.bad=>False
 |_=>True
noncomputable def Out.then:Out→(DS→Out)→Out
 |.nx ρ,f=>f ρ
 |o,_=>o
noncomputable def Res.out {α:Type}:Res α→(α→Out)→Out
 |.ok a,f=>f a
 |.exc c,_=>.exc c
 |.bad,_=>.bad
noncomputable def SO (X:Cx)(pins:List (Addr×Obj))(G H:Hp)(o:Out)(fl:Flow)(s':Shared):Prop:=
 match fl with
 |.next=>∃ρ' σ' G' H',o= .nx ρ'∧Inv X pins σ' H' s'∧Ext G H G' H'∧Ro X.K G' σ' ρ'
 |.brk=>∃ρ' σ' G' H',o= .bk ρ'∧Inv X pins σ' H' s'∧Ext G H G' H'∧Ro X.K G' σ' ρ'
 |.cont=>∃ρ' σ' G' H',o= .ct ρ'∧Inv X pins σ' H' s'∧Ext G H G' H'∧Ro X.K G' σ' ρ'
 |.ret u=>∃d v σ' G' H',o= .rt d∧Inv X pins σ' H' s'∧RelV v u∧Ext G H G' H'∧Rep X.K G' d v
noncomputable def Je (X:Cx)(E:XK)(st:Stmt)(F:DS→Out):Prop:=
 ∀(pins:List (Addr×Obj)) (s:Shared) (σ:St) (G H:Hp) (ρ:DS),Inv X pins σ H s→Same G H→Ro X.K G σ ρ→OkO E H (F ρ)→
  wpAny (model X.prog X.w) X.A (exec st X.env) (SO X pins G H (F ρ)) X.xe s
noncomputable def Jf (X:Cx)(E:XK)(sts:List Stmt)(F:DS→Out):Prop:=
 ∀(pins:List (Addr×Obj)) (s:Shared) (σ:St) (G H:Hp) (ρ:DS),Inv X pins σ H s→Same G H→Ro X.K G σ ρ→OkO E H (F ρ)→
  wpAny (model X.prog X.w) X.A (execs sts X.env) (SO X pins G H (F ρ)) X.xe s
theorem OkO.fst {E:XK}{H:Hp}{o:Out}{f:DS→Out}(h:OkO E H (o.then f)):OkO E H o:=by cases o <;> first|exact h|trivial
theorem OkO.snd {E:XK}{H H1:Hp}{o:Out}{f:DS→Out}{ρ:DS}(h:OkO E H (o.then f))(e:o= .nx ρ)(s:Same H H1):OkO E H1 (f ρ):=by
 subst e;have h':OkO E H (f ρ):=h;cases q:f ρ with
 |exc c=>rw[q]at h';exact fun H' s'=>h' H' (s.trans s')
 |bad=>rw[q]at h';exact h'
 |nx _=>trivial
 |rt _=>trivial
 |bk _=>trivial
 |ct _=>trivial
theorem OkO.le {E:XK}{H H1:Hp}{o:Out}(h:OkO E H o)(s:Same H H1):OkO E H1 o:=by
 cases o with
 |exc c=>exact fun H' s'=>h H' (s.trans s')
 |bad=>exact h
 |_=>trivial
theorem OkO.res {α:Type}{E:XK}{H:Hp}{x:Res α}{f:α→Out}(h:OkO E H (x.out f)):OkR E H x:=by cases x <;> first|exact h|trivial
theorem OkO.res2 {α:Type}{E:XK}{H H1:Hp}{x:Res α}{f:α→Out}{a:α}(h:OkO E H (x.out f))(e:x= .ok a)(s:Same H H1):OkO E H1 (f a):=by
 subst e;exact OkO.le (show OkO E H (f a) from h) s
theorem bM {α:Type}{x:Res α}{f:α→Out}{a:α}(e:x= .ok a):x.out f=f a:=by subst e;rfl
section
variable{X:Cx}{E:XK}
noncomputable def ax (F R:DS→Out):DS→Out:=fun ρ=>(F ρ).then R
theorem wS {st:Stmt}{F:DS→Out}(h1:Je X E st F):Jf X E [st] F:=by
 intro pins s σ G H ρ I hs hr ho;refine wpAny_execs_cons (aO (h1 pins s σ G H ρ I hs hr ho) fun fl s1 q=>?_);cases fl with
 |next=>exact wpAny_execs_nil q
 |brk=>exact q
 |cont=>exact q
 |ret u=>exact q
noncomputable def bw (f:DS→Res D):DS→Out:=fun ρ=>(f ρ).out .rt
theorem AE {e:Expr}{pos:Pos}{f:DS→Res D}(h:PD X E e f):Je X E (.Return (some e) pos) (bw f):=by
 intro pins s σ G H ρ I hs hr ho;refine aO (vG (pos:=pos) (fS h) pins s σ H {nx:=fun _ _=>False,bk:=fun _ _=>False,ct:=fun _ _=>False,rt:=fun v H'=>∃d G',f ρ= .ok d∧Ext G H G' H'∧Rep X.K G' d v} I ⟨G,ρ,hs,hr,ho.res,fun d e v G' H' x rp=>(dR d G' e x rp)⟩) fun fl s1 q=>?_;cases fl with
 |next=>obtain⟨_,_,_,q⟩:=q;exact q.elim
 |brk=>obtain⟨_,_,_,q⟩:=q;exact q.elim
 |cont=>obtain⟨_,_,_,q⟩:=q;exact q.elim
 |ret u=>
  obtain⟨v,σ',H',I',rv,d,G',e,x,rp⟩:=q;exact⟨d,v,σ',G',H',bM e,I',rv,x,rp⟩
noncomputable def aT (i:Nat)(f:DS→Res D):DS→Out:=fun ρ=>(f ρ).out fun d=>.nx (ρ.set i (some d))
noncomputable def i3 (fc:DS→Res Bool)(Fa Fb:DS→Out):DS→Out:=fun ρ=>(fc ρ).out fun k=>if k=true then Fa ρ else Fb ρ
noncomputable def Gy (C:Addr)(ok:DS→Bool):DS→Out:=fun ρ=>if ok ρ=true then .exc C else .bad
noncomputable def Co (j:Nat)(F:DS→Out):List D→DS→Out
 | [],ρ=>.nx ρ
 |d::ds,ρ=>match F (ρ.set j (some d)) with
  |.nx ρ'=>Co j F ds ρ'
  |.ct ρ'=>Co j F ds ρ'
  |.bk ρ'=>.nx ρ'
  |.rt d=>.rt d
  |.exc c=>.exc c
  |.bad=>.bad
noncomputable def Jj (fi:DS→Res (List D))(j:Nat)(F:DS→Out):DS→Out:=fun ρ=>(fi ρ).out fun ds=>Co j F ds ρ
end
noncomputable def fQ:Out→Res D
 |.rt d=>.ok d
 |.nx _=>.ok .non
 |.exc c=>.exc c
 |_=>.bad
noncomputable def aC (N:List Str)(ds:List D):DS:=ds.map some ++ replicate (N.length-ds.length) none
theorem ui {K:W.Frag}{G:Hp}{N:List Str}{ds:List D}{vs:List V}(h:RepL K G ds vs):Ro K G (gu N vs) (aC N ds):=by
 intro i d e;unfold aC at e;unfold gu;by_cases hi:i<ds.length
 ·rw[List.getElem?_append_left (by simpa using hi),getElem?_map]at e;cases q:ds[i]? with
  |none=>rw[q]at e;cases e
  |some d'=>
   rw[q]at e;cases e;obtain⟨v,hv,rv⟩:=h.get q;have hv2:i<vs.length:=(cU hv).1;exact⟨v,by rw[List.getElem?_append_left (by simpa using hv2),getElem?_map,hv];rfl,rv⟩
 ·rw[List.getElem?_append_right (by simpa using hi),List.getElem?_replicate]at e;split at e <;> cases e
section
variable{P:Program}{w:World}{K:W.Frag}{mg:Str→Option Value}{base:Heap}
noncomputable abbrev yR (P:Program)(w:World)(K:W.Frag)(mg:Str→Option Value)(base:Heap)(N:List Str)(qual:Str)(scope:Scope)(f:Addr)(cdv:Value)(A:Around)(outer:List Env)(s:Shared)(H:Hp)(E:XK):Cx:=sW (CXF P w) P w K mg base N qual scope f cdv A outer s H E
theorem Fun.okF {x qual:Str}{st:Stmt}{f:Addr}{fd:FuncData}{N ps:List Str}{k:Nat}{sp:Sp}(F:Fun K x qual st f fd)(S:FnScope N ps (ag st))(len:∀vs H Q E,sp vs H Q E→vs.length=ps.length)
  (hbody:∀(cdv:Value) (A:Around) (outer:List Env) (s:Shared) (H:Hp) (vs:List V) (Q:VK) (E:XK),Room k (A.deeper (envOfC qual (ag st) s.heap.objs.size f cdv))→sp vs H Q E→
   ∃t,GX (yR P w K mg base N qual (ag st) f cdv A outer s H E) (cL st) t∧t {nx:=fun _ H'=>Q .non H',rt:=Q} (gu N vs) H):FnOk P w K mg base (CXF P w) (k+1) f fd ps sp:=by
 refine DP (F.ex) fun oc od kV doc pm an cdv ct osl hS120 lk hcd=>?_;subst hS120;exact zq lk hcd S len fun A outer s H vs Q E hr hsp=>hbody cdv A outer s H vs Q E hr hsp
theorem Fun.pure {x qual:Str}{st:Stmt}{f:Addr}{fd:FuncData}{N ps:List Str}{k:Nat}{m:List D→Res D}(F:Fun K x qual st f fd)(S:FnScope N ps (ag st))(len:∀ds,m ds≠ .bad→ds.length=ps.length)
  (hbody:∀(cdv:Value) (A:Around) (outer:List Env) (s:Shared) (H:Hp) (E:XK),Room k (A.deeper (envOfC qual (ag st) s.heap.objs.size f cdv))→
   ∃Fb,Jf (yR P w K mg base N qual (ag st) f cdv A outer s H E) E (cL st) Fb∧∀ds,m ds≠ .bad→fQ (Fb (aC N ds))=m ds):FnOk P w K mg base (CXF P w) (k+1) f fd ps (pureSp K m):=by
 have nb:∀{E:XK} {H:Hp} {r:Res D},OkR E H r→r≠ .bad:=fun h z=>by rw[z]at h;exact h
 refine DP (F.ex) fun oc od kV doc pm an cdv ct osl hS121 lk hcd=>?_;subst hS121;refine zq lk hcd S (fun vs H Q E hZ142=>(by obtain⟨ds,G,_,rl,R,_⟩:=hZ142;rw[←rl.length];exact len ds (nb R))) fun A outer s H vs Q E hr hsp=>?_;refine cps fun PP kP=>?_;obtain⟨ds,G,hs,rl,R,k⟩:=hsp;obtain⟨Fb,hb,hm⟩:=hbody cdv A outer s H E hr;refine kP ?_;clear kP PP;have O:=hm ds (nb R);have hoO:OkO E H (Fb (aC N ds)):=by
  rw[←O]at R;cases q:Fb (aC N ds) with
  |exc c=>rw[q]at R;exact R
  |bad=>rw[q]at R;exact R
  |_=>trivial
 refine⟨fun D σ H1=>(σ=gu N vs∧H1=H∧(D.nx=fun _ T=>Q .non T)∧D.rt=Q),?_,rfl,rfl,rfl,rfl⟩;intro pins s1 σ H1 D I hZ12;refine mE (hZ12) fun e1 e2 e3 e4=>?_;subst e1 e2;refine aO (hb pins s1 _ G H1 (aC N ds) I hs (ui rl) hoO) fun fl s2 q=>?_;cases fl with
 |next=>
  refine pH (q) fun ρ' B G' T e I' x r=>?_;refine⟨B,T,I',?_⟩;rw[e3];exact k .non (by rw[←O,e];rfl) .non G' T x (rep_non.mpr rfl)
 |brk=>
  refine pH (q) fun ρ' B G' T e I' x r=>?_;rw[e]at O;exact absurd O.symm (nb R)
 |cont=>
  refine pH (q) fun ρ' B G' T e I' x r=>?_;rw[e]at O;exact absurd O.symm (nb R)
 |ret u=>
  obtain⟨d,v,B,G',T,e,I',rv,x,rp⟩:=q;refine⟨v,B,T,I',rv,?_⟩;rw[e4];exact k d (by rw[←O,e];rfl) v G' T x rp
end
section
variable{X:Cx}{E:XK}
noncomputable def ab (i:Nat):DS→Res D:=fun ρ=>match ρ[i]? with|some (some d)=>.ok d|_=>.bad
theorem dv (i:Nat){x:Str}{pos:Pos}(hN:X.N[i]?=some x:=by rfl)(hv:yP X.env.scope x:=by first|exact Or.inl rfl|exact Or.inr (Or.inl rfl)|exact Or.inr (Or.inr rfl))(hd:(x==("__debug__" :Str))=false:=by decide)
  (hcd:(x==("__classdict__" :Str))=false:=by decide):PD X E (.Name x pos) (ab i):=Gh hN hv hd hcd
end
section
variable{α β:Type}{a:α}{f:α→Res β}{g:α→Out}{c:Addr}
theorem aD:(Res.ok a).bind f=f a:=id rfl
theorem tt:(Res.exc c:Res α).bind f= .exc c:=id rfl
theorem bj:(Res.ok a).out g=g a:=id rfl
theorem uT:(Res.exc c:Res α).out g= .exc c:=id rfl
end
section
variable{ρ:DS}{R:DS→Out}{d e:D}{i j:Int}{l:List D}{c:Addr}{F F':DS→Out}{f f':DS→Res D}{fc:DS→Res Bool}{b:Bool}
theorem uV:(Out.nx ρ).then R=R ρ:=id rfl
theorem uW:(Out.rt d).then R= .rt d:=id rfl
theorem tz:(Out.exc c).then R= .exc c:=id rfl
theorem uU:ax F R ρ=(F ρ).then R:=id rfl
theorem Fo {k:Nat}:aT k f ρ=(f ρ).out fun d=>.nx (ρ.set k (some d)):=id rfl
theorem lV:bw f ρ=(f ρ).out .rt:=id rfl
theorem Hs:i3 fc F F' ρ=(fc ρ).out fun k=>if k=true then F ρ else F' ρ:=id rfl
theorem D_ {o:D→D→Res D}:ae f f' o ρ=(f ρ).bind fun a=>(f' ρ).bind fun b=>o a b:=id rfl
theorem Hn {fs:DS→Res (List D)}{g:List D→Res D}:bL fs g ρ=(fs ρ).bind g:=id rfl
theorem EQ:f8 f ρ=(f ρ).bind fun d=>match d with|.bl b=>.ok b|_=>.bad:=id rfl
theorem Ck:ab 0 (some d::ρ)= .ok d:=id rfl
theorem Cl {k:Nat}{o:Option D}:ab (k+1) (o::ρ)=ab k ρ:=id rfl
theorem Cf {o o':Option D}:(o::ρ).set 0 o'=o'::ρ:=id rfl
theorem Cg {k:Nat}{o o':Option D}:(o::ρ).set (k+1) o'=o::ρ.set k o':=id rfl
theorem tw:fQ (.rt d)= .ok d:=id rfl
theorem zl:fQ (.nx ρ)= .ok .non:=id rfl
theorem xC:fQ (.exc c)= .exc c:=id rfl
theorem EN:yV (.int i) (.int j)= .ok (.int (i+j)):=id rfl
theorem Fq:ux (.int i) (.int j)= .ok (.int (i-j)):=id rfl
theorem Ca (h1: -(2 ^ 64)<j)(h2:j<2 ^ 64):yg (.int i) (.int j)= .ok (.int (i*j)):=by
 unfold yg i6;dsimp only;rw[if_pos (decide_eq_true (show CMul i j from Or.inr ⟨h1,h2⟩))]
theorem B_ (h1: -(2 ^ 64)<i)(h2:i<2 ^ 64):yg (.int i) (.int j)= .ok (.int (i*j)):=by
 unfold yg i6;dsimp only;rw[if_pos (decide_eq_true (show CMul i j from Or.inl ⟨h1,h2⟩))]
theorem rb (h:0<j):kJ (.int i) (.int j)= .ok (.int (i % j)):=by
 unfold kJ i6;dsimp only;rw[if_pos (decide_eq_true h)]
theorem BT (h1:0<j)(h2:j<1073741824):tE (.int i) (.int j)= .ok (.int (i / j)):=by
 unfold tE i6;dsimp only;rw[if_pos (decide_eq_true (show yQ i j from ⟨h1,h2⟩))]
theorem Hu:wv (.int i) (.int j)= .ok (.bl (decide (i<j))):=id rfl
theorem DZ:uI (.int i) (.int j)= .ok (.bl (decide (i≤j))):=id rfl
theorem Hr:IV (.int i) (.int j)= .ok (.bl (decide (j<i))):=id rfl
theorem Hq:JU (.int i) (.int j)= .ok (.bl (decide (j≤i))):=id rfl
theorem q_:bq [.lst l]= .ok (.int l.length):=id rfl
theorem BV:bq [.tup l]= .ok (.int l.length):=id rfl
theorem on {d:D}(h:atI l i=some d):aL (.lst l) (.int i)= .ok d:=by unfold aL;dsimp only;rw[h]
theorem fA {d:D}(h:atI l i=some d):aL (.tup l) (.int i)= .ok d:=by unfold aL;dsimp only;rw[h]
theorem ki {α:Type}{xs:List α}{i:Int}{v:α}(h0:0≤i)(h:xs[i.toNat]?=some v):atI xs i=some v:=by
 have:=v9 (j:=i.toNat) h;rwa[Int.toNat_of_nonneg h0]at this
theorem BZ:Ih [.int i,.int j]= .ok (.int (min i j)):=id rfl
theorem BX:qw [.int i,.int j]= .ok (.int (max i j)):=id rfl
end
section
variable{X:Cx}{E:XK}
noncomputable def tB (f:DS→Res D):DS→Out:=fun ρ=>(f ρ).out fun _=>.nx ρ
noncomputable def rD (K:W.Frag)(C:Addr)(m:List D→Res D):Sp:=fun vs H Q E=>∃p dx rest ds G,vs= .ref p::rest∧H p=some (.ins C dx [])∧Same G H∧G p=none∧RepL K G ds rest∧OkR E H (m ds)∧
 ∀ns fds,m ds= .ok (.ins C ns fds)→∀fs G' H',fs.map (·.1)=ns→RepL K G' fds (fs.map (·.2))→H' p=some (.ins C dx fs)→(∀b o,H b=some o→b≠p→H' b=some o)→Same G G'→Same G' H'→(∀b o,G' b=some o→G b=some o∨H b=none∨oH o)→G' p=none→Q .non H'
noncomputable def Ey (C:Addr)(m:List D→Res D):Prop:=∀ds d,m ds= .ok d→∃ns fds,d= .ins C ns fds
theorem CV {CX:sH}{k:Nat}{f C:Addr}{fd:FuncData}{ps:List Str}{m:List D→Res D}{x:Str}{p pos:Pos}{e:Expr}{es:List Expr}{fs:DS→Res (List D)}(M:Mk X.K C f)(F:FnOk X.prog X.w X.K X.mg X.base CX k f fd ps (rD X.K C m))(hmk:Ey C m)(hr:Room (k+1) X.A)(hg:Gl X x)(hm:X.mg x=some (.ref C))(hb:Binds X.K fd ps [])(hx:cQ CX X E)
  (ha:mW X E (e::es) fs) (hpe:∀t,PA X (e::es) t→PE X (.Call (.Name x p) (e::es) [] pos) (Es C (rD X.K C m) [] E t)) :
  PD X E (.Call (.Name x p) (e::es) [] pos) (bL fs m):=by
 intro pins s σ G H ρ I hs hro ho;refine aO (hpe _ (jC ha) pins s σ H (fun v H'=>∃d G',bL fs m ρ= .ok d∧Ext G H G' H'∧Rep X.K G' d v) I ?_) fun u s' hZ143=>(by obtain⟨v,H',I',r',d,G',e,x,rp⟩:=hZ143;exact⟨d,e,v,G',H',I',r',x,rp⟩);refine⟨G,ρ,hs,hro,ho.fst,fun ds e1 vs G1 H1 x1 p1 y dy hy hdy hne=>?_⟩;have kk:=ho.snd e1 x1.hh;have S:Same H1 (bo (bo H1 dy (.own y)) y (.ins C dy [])):=fun b o Q=>by rw[ak (aB Q hy),ak (aB Q hdy)];exact Q
 have fr2:∀b,(bo (bo H1 dy (.own y)) y (.ins C dy [])) b=none→H1 b=none:=fun b Q=>S.free Q;have g1y:G1 y=none:=by
  cases q:G1 y with
  |none=>rfl
  |some o=>rw[x1.gh y o q]at hy;cases hy
 refine⟨y,dy,vs,ds,G1,by rw[append_nil],au,x1.gh.trans S,g1y,p1,kk.le S,fun ns fds em fs2 G' H' hn rl hp kp sg sh nw gp=>⟨rfl,?_⟩⟩;refine(dR (.ins C ns fds) (bo G' y (.ins C dy fs2)) (al e1 em) (x1.trans ⟨?_,?_,?_,?_⟩) (rep_ins.mpr (jb y dy fs2 rfl au hn (rl.mono ?_))))
 ·exact fun b o Q=>kp b o (S b o Q) (aB Q hy)
 ·exact fun b o Q=>by rw[ak (aB (sg b o Q) gp)];exact sg b o Q
 ·intro b o Q;by_cases R:b=y
  ·subst R;rw[au]at Q;cases Q;exact hp
  ·rw[ak R]at Q;exact sh b o Q
 ·intro b o Q;by_cases R:b=y
  ·subst R;exact .inr (.inl hy)
  ·rw[ak R]at Q;exact(nw b o Q).imp id (Or.imp (fr2 b) id)
 ·exact fun b o Q=>by rw[ak (aB Q gp)];exact Q
noncomputable def JM (F:DS→Out)(g:Addr→Option D):DS→Out:=fun ρ=>match F ρ with
 |.exc c=>(match g c with|some d=>.rt d|none=>.bad)
 |o=>o
end
theorem kZ:bootBuiltins "list" =some (.type "list"):=by decide +kernel
theorem y8:bootBuiltins "tuple" =some (.type "tuple"):=by decide +kernel
theorem EF:bootBuiltins "int" =some (.type "int"):=by decide +kernel
theorem BD:bootBuiltins "bool" =some (.type "bool"):=by decide +kernel
theorem y7:bootBuiltins "min" =some (.builtin "min"):=by decide +kernel
theorem y6:bootBuiltins "max" =some (.builtin "max"):=by decide +kernel
section
variable{X:Cx}{E:XK}
theorem t8 {x:Str}{i:Int}{pos:Pos}(hm:∃t,X.mg x=some (.int i t))(hg:Gl X x:=by rfl)(hd:(x==("__debug__" :Str))=false:=by decide):PD X E (.Name x pos) (fun _=>.ok (.int i)):=by
 obtain⟨t,hm⟩:=hm;exact Aj hg hm ⟨t,rfl⟩ hd
end
section
variable{ρ:DS}{fa fb fc:DS→Res D}{f g:DS→Res Bool}{b:Bool}{c:Addr}{F:DS→Out}{j:Nat}{d:D}{ds:List D}
theorem EO:By f g ρ=(f ρ).bind fun b=>if b=true then g ρ else .ok false:=id rfl
theorem Hv:GY f g ρ=(f ρ).bind fun b=>if b=true then .ok true else g ρ:=id rfl
theorem Fm:i7 f ρ=(f ρ).bind fun b=>.ok (!b):=id rfl
theorem BR:tB fa ρ=(fa ρ).out fun _=>.nx ρ:=id rfl
theorem EV {fi:DS→Res (List D)}:Jj fi j F ρ=(fi ρ).out fun ds=>Co j F ds ρ:=id rfl
theorem Fj {a b:Int}:sG (.int a) (.int b)= .ok (.bl (!(a==b))):=id rfl
theorem ET {a b:Int}:Bp (.int a) (.int b)= .ok (.bl (a==b)):=id rfl
theorem BP:Bz fa fb ρ=(fa ρ).bind fun d=>match d with|.bl true=>fb ρ|.bl false=>.ok (.bl false)|_=>.bad:=id rfl
theorem Cb:FU fa ρ=(fa ρ).bind fun d=>match d with|.bl b=>.ok (.bl (!b))|_=>.bad:=id rfl
theorem BW {fs:DS→Res (List D)}:gJ fs ρ=(fs ρ).bind fun ds=>if aS ds.length=true then .ok (.lst ds) else .bad:=id rfl
theorem Ci {fs:DS→Res (List D)}:f7 fs ρ=(fs ρ).bind fun ds=>if aS ds.length=true then .ok (.tup ds) else .bad:=id rfl
theorem BY {C:Addr}{m:Str}{gm:List D→Res D}:fM C m fa gm ρ=(fa ρ).bind fun o=>if mH C m o=true then gm [o] else .bad:=id rfl
theorem zm {lo hi:DS→Res (Option Int)}:GF fa lo hi ρ=(fa ρ).bind fun d=>(lo ρ).bind fun l=>(hi ρ).bind fun u=>kR l u d:=id rfl
theorem Fr {F:DS→Out}{gx:Addr→Option D}:JM F gx ρ=match F ρ with|.exc c=>(match gx c with|some d=>.rt d|none=>.bad)|o=>o:=id rfl
theorem E_ {d:D}:Jp d .non= .ok (.bl (IW d)):=id rfl
theorem Cc {d:D}:Ij d .non= .ok (.bl (!IW d)):=id rfl
end
section
variable{X:Cx}{E:XK}
theorem Ip {pl:Sem Bool}{k:Nat}{f C:Addr}{fd:FuncData}{ps:List Str}{g:List D→Res D}{m:Str}{apos pos:Pos}{o:Expr}{fo:DS→Res D}(hoo:PD X E o fo)(c:Cls X.K C)(hm:Meth X.K C m f)(F:FnOk X.prog X.w X.K X.mg X.base (CXF X.prog X.w) k f fd ps (pureSp X.K g))(hr:Room k X.A)(hb:Binds X.K fd ps [])
  (hx:cQ (CXF X.prog X.w) X E:=by exact ji fun _ _ _ h=>h)
  (ht:eval (.Call (.Attribute o m apos) [] [] pos) X.env=(do
   let ov ←eval o X.env
   standAt apos.atName
   let (f,first) ←holding [ov] (getMethod ov m pl)
   callWith pos f first (backTo pos (starEach [] X.env)) (backToKw pos (keywordEach [] X.env))):=by rfl):PD X E (.Call (.Attribute o m apos) [] [] pos) (fM C m fo g):=
 Ak (pl:=pl) hoo c hm F hr hb hx (Au (pl:=pl) (fS hoo) c hm F hr hb .nil hx ht)
end
section
variable{X:Cx}{E:XK}{e e2:Expr}{p pos:Pos}{f f2:DS→Res D}
theorem aW (hm:X.mg "len" =none)(h:PD X E e f)(hg:Gl X "len" :=by rfl)(he:starEach [e] X.env=(false,eval e X.env)::starEach [] X.env:=by rfl):PD X E (.Call (.Name "len" p) [e] [] pos) (fun ρ=>(f ρ).bind fun a=>bq [a]):=by
 have q:=fR (X:=X) (E:=E) (p:=p) (pos:=pos) qS EI hg hm PySem.boot_len (aa h ac he) (by decide) (by decide) he rfl;have e:bL (fun ρ=>(f ρ).bind fun d=>(Res.ok []:Res (List D)).bind fun ds=>.ok (d::ds)) bq=fun ρ=>(f ρ).bind fun a=>bq [a]:=funext fun ρ=>by
  show ((f ρ).bind _).bind _=_;cases f ρ <;> rfl
 exact e ▸ q
theorem CU (hm:X.mg "list" =none)(h:PD X E e f)(hg:Gl X "list" :=by rfl)(he:starEach [e] X.env=(false,eval e X.env)::starEach [] X.env:=by rfl):PD X E (.Call (.Name "list" p) [e] [] pos) (fun ρ=>(f ρ).bind fun a=>dS [a]):=by
 have q:=mq (X:=X) (E:=E) (p:=p) (pos:=pos) iG wf hg hm kZ (aa h ac he) (by decide) (by decide) he rfl;have e:bL (fun ρ=>(f ρ).bind fun d=>(Res.ok []:Res (List D)).bind fun ds=>.ok (d::ds)) dS=fun ρ=>(f ρ).bind fun a=>dS [a]:=funext fun ρ=>by
  show ((f ρ).bind _).bind _=_;cases f ρ <;> rfl
 exact e ▸ q
theorem Ao (hm:X.mg "tuple" =none)(h:PD X E e f)(hg:Gl X "tuple" :=by rfl)(he:starEach [e] X.env=(false,eval e X.env)::starEach [] X.env:=by rfl):PD X E (.Call (.Name "tuple" p) [e] [] pos) (fun ρ=>(f ρ).bind fun a=>pB [a]):=by
 have q:=mq (X:=X) (E:=E) (p:=p) (pos:=pos) pK za hg hm y8 (aa h ac he) (by decide) (by decide) he rfl;have e:bL (fun ρ=>(f ρ).bind fun d=>(Res.ok []:Res (List D)).bind fun ds=>.ok (d::ds)) pB=fun ρ=>(f ρ).bind fun a=>pB [a]:=funext fun ρ=>by
  show ((f ρ).bind _).bind _=_;cases f ρ <;> rfl
 exact e ▸ q
theorem CY (hm:X.mg "min" =none)(h:PD X E e f)(hc:X.calm=true:=by rfl)(hg:Gl X "min" :=by rfl)(he:starEach [e] X.env=(false,eval e X.env)::starEach [] X.env:=by rfl):PD X E (.Call (.Name "min" p) [e] [] pos) (fun ρ=>(f ρ).bind fun a=>pT [a]):=by
 have q:=fR (X:=X) (E:=E) (p:=p) (pos:=pos) (xo hc) BL hg hm y7 (aa h ac he) (by decide) (by decide) he rfl;have e:bL (fun ρ=>(f ρ).bind fun d=>(Res.ok []:Res (List D)).bind fun ds=>.ok (d::ds)) pT=fun ρ=>(f ρ).bind fun a=>pT [a]:=funext fun ρ=>by
  show ((f ρ).bind _).bind _=_;cases f ρ <;> rfl
 exact e ▸ q
theorem wF (hm:X.mg "max" =none)(h:PD X E e f)(hc:X.calm=true:=by rfl)(hg:Gl X "max" :=by rfl)(he:starEach [e] X.env=(false,eval e X.env)::starEach [] X.env:=by rfl):PD X E (.Call (.Name "max" p) [e] [] pos) (fun ρ=>(f ρ).bind fun a=>pS [a]):=by
 have q:=fR (X:=X) (E:=E) (p:=p) (pos:=pos) (xm hc) BK hg hm y6 (aa h ac he) (by decide) (by decide) he rfl;have e:bL (fun ρ=>(f ρ).bind fun d=>(Res.ok []:Res (List D)).bind fun ds=>.ok (d::ds)) pS=fun ρ=>(f ρ).bind fun a=>pS [a]:=funext fun ρ=>by
  show ((f ρ).bind _).bind _=_;cases f ρ <;> rfl
 exact e ▸ q
theorem CW {fs:DS→Res (List D)}(hm:X.mg "max" =none)(h:mW X E [e,e2] fs)(hc:X.calm=true:=by rfl)(hg:Gl X "max" :=by rfl)(he:starEach [e,e2] X.env=(false,eval e X.env)::starEach [e2] X.env:=by rfl)(hpl:(backTo pos (starEach [e2] X.env)).any (·.1)=false:=by rfl):PD X E (.Call (.Name "max" p) [e,e2] [] pos) (bL fs qw):=
 fR (xl hc) BJ hg hm y6 h (by decide) (by decide) he hpl
theorem En {x:Str}{n:String}{pos:Pos}(hm:X.mg x=none)(hv:bootBuiltins x=some (.type n))(hg:Gl X x:=by rfl)(hn:x≠ "__name__" :=by decide)(hd:(x==("__debug__" :Str))=false:=by decide):PE X (.Name x pos) (tC (.ty n)):=rS hg hm hv rfl hn hd
theorem wE {a c:Expr}{p pos:Pos}{fa:DS→Res D}{vc:V}(hm:X.mg "isinstance" =none)(ha:PD X E a fa)(hcl:PE X c (tC vc))(hvc:cV vc≠ .none:=by exact fun z=>nomatch z)(hg:Gl X "isinstance" :=by rfl)
  (hs1:starEach [a,c] X.env=(false,eval a X.env)::starEach [c] X.env:=by rfl) (hs2:starEach [c] X.env=(false,eval c X.env)::starEach [] X.env:=by rfl) (hpl:(backTo pos (starEach [c] X.env)).any (·.1)=false:=by rfl) :
  PD X E (.Call (.Name "isinstance" p) [a,c] [] pos) (fun ρ=>(fa ρ).bind (lw X.K (cV vc))):=Gd ha hcl hvc hg hm hs1 hs2 hpl
end
section
variable{ρ:DS}{fa fb fc:DS→Res D}{c:Addr}{l:List D}{i:Int}
noncomputable def IX:D→D→Res D→Res Bool
 |.int a,.int b,z=>if a≤b then z.bind fun c=>(match c with|.int c=>.ok (decide (b≤c))|_=>.bad) else .ok false
 |_,_,_=>.bad
theorem Fd {x y z:Int}:IX (.int x) (.int y) (.ok (.int z))= .ok (decide (x≤y)&&decide (y≤z)):=by
 unfold IX;dsimp only;by_cases h:x≤y
 ·rw[if_pos h,decide_eq_true h];rfl
 ·rw[if_neg h,decide_eq_false h];rfl
theorem xA:iH fa fb fc uI uI ρ=(fa ρ).bind fun a=>(fb ρ).bind fun b=>IX a b (fc ρ):=by
 unfold iH;cases fa ρ with
 |ok a=>
  cases fb ρ with
  |ok b=>
   rw[aD,aD,aD,aD];cases a with
   |int x=>
    cases b with
    |int y=>
     rw[DZ,aD];unfold IX;dsimp only;by_cases h:x≤y
     ·rw[decide_eq_true h,if_pos h];dsimp only;cases fc ρ with
      |ok c=>
       rw[aD,aD];cases c <;> rfl
      |_=>rfl
     ·rw[decide_eq_false h,if_neg h]
    |_=>rfl
   |_=>cases b <;> rfl
  |_=>rfl
 |_=>rfl
theorem ER:Jh (.int i)= .ok (some i):=id rfl
theorem Cj:GM (.tup l)= .ok l:=id rfl
theorem Ce:DB (.lst l)= .ok l:=id rfl
theorem Hw:Gy c (fun _=>true) ρ= .exc c:=id rfl
theorem Fl:FS (.int i)= .ok (.int (-i)):=id rfl
theorem Ch {x y z:D}:(([x,y,z]:List D).length:Int)=3:=id rfl
theorem qi {x:D}{r:List D}:aL (.tup (x::r)) (.int 0)= .ok x:=fA (ki (by decide) rfl)
theorem zn {x y:D}{r:List D}:aL (.tup (x::y::r)) (.int 1)= .ok y:=fA (ki (by decide) rfl)
theorem qj {x y z:D}{r:List D}:aL (.tup (x::y::z::r)) (.int 2)= .ok z:=fA (ki (by decide) rfl)
theorem zi {x:D}{r:List D}:aL (.lst (x::r)) (.int 0)= .ok x:=on (ki (by decide) rfl)
theorem zj {x y:D}{r:List D}:aL (.lst (x::y::r)) (.int 1)= .ok y:=on (ki (by decide) rfl)
theorem Fe {α:Type}:aS ([]:List α).length=true:=decide_eq_true (by show 0≤100000;decide)
theorem Ff {α:Type}{a:α}:aS [a].length=true:=decide_eq_true (by show 1≤100000;decide)
theorem Fg {α:Type}{a b:α}:aS [a,b].length=true:=decide_eq_true (by show 2≤100000;decide)
theorem Fh {α:Type}{a b c:α}:aS [a,b,c].length=true:=decide_eq_true (by show 3≤100000;decide)
theorem Fi {α:Type}{a b c d:α}:aS [a,b,c,d].length=true:=decide_eq_true (by show 4≤100000;decide)
theorem Fp {x y z:D}:kR none (some 2) (.tup [x,y,z])= .ok (.tup [x,y]):=by
 unfold kR;dsimp only;rw[if_neg (by simp[HT.cS])];rfl
end
theorem eJ {P:Program}{w:World}{X:Cx}:cQ (CXF P w) X qJ:=by
 intro pins σ H s e s' I h;obtain⟨_,_,_,_,_,_,_,_,_,_,_,_,_,_,q⟩:=h;exact q.elim
noncomputable def HU:D→Option bF
 |.int i=>some (.inl i)
 |.str x=>some (.inr x)
 |_=>none
noncomputable def g0:List D→Option (List bF)
 | []=>some []
 |d::ds=>match HU d,g0 ds with
  |some k,some ks=>some (k::ks)
  |_,_=>none
theorem me {K:W.Frag}{G:Hp}:∀{ds:List D} {xs:List V} {k:List bF},RepL K G ds xs→g0 ds=some k→xs=k.map kV:=by
 intro l_
 induction l_ with
 |nil=>
  rintro xs k h e;exact by unfold g0 at e;cases e;rw[h.inv0];rfl
 |cons d ds ihh=>
  rintro xs k h e;refine bA (h.inv) fun v r hS122 h1 h2=>?_;subst hS122;unfold g0 at e;split at e
  ·rename_i k0 ks e1 e2;cases e;rw[ihh h2 e2];unfold HU at e1;split at e1
   ·cases e1;rw[rep_int.mp h1];rfl
   ·cases e1;rw[rep_str.mp h1];rfl
   ·cases e1
  ·cases e
noncomputable def sx:List (List bF)→List D→List bF→Option D
 |k::ks,d::ds,q=>if k=q then some d else sx ks ds q
 |_,_,_=>none
theorem uA {K:W.Frag}{G:Hp}{q:List bF}:∀{kvs:List (List bF×V)} {ds:List D},RepL K G ds (kvs.map (·.2))→(∀d,sx (kvs.map (·.1)) ds q=some d→∃v,i9 kvs q=some v∧Rep K G d v)∧(sx (kvs.map (·.1)) ds q=none→i9 kvs q=none)
 | [],ds,h=>⟨fun d e=>(by unfold sx at e;cases ds <;> cases e),fun _=>rfl⟩
 |(k,v)::r,ds,h=>by
  cases ds with
  |nil=>exact absurd h.inv0 (by simp)
  |cons d0 ds=>
   refine bA (h.inv) fun v' r' e' h1 h2=>?_;rw[map_cons]at e';cases e';have ih:=uA (q:=q) h2;have ev:i9 ((k,v)::r) q=if k=q then some v else i9 r q:=by
    unfold i9;rw[find?_cons];by_cases z:k=q
    ·rw[decide_eq_true z,if_pos z];rfl
    ·rw[decide_eq_false z,if_neg z]
   rw[map_cons];unfold sx;rw[ev];by_cases z:k=q
   ·rw[if_pos z,if_pos z];exact⟨fun d e=>⟨v,rfl,(by cases e;exact h1)⟩,fun e=>(by cases e)⟩
   ·rw[if_neg z,if_neg z];exact ih
noncomputable def k_ (ks:List (List bF))(ds kd:List D):Res D:=match g0 kd with
 |some k=>(match sx ks ds k with|some d=>.ok d|none=>.bad)
 |none=>.bad
noncomputable def cB:D→D→Res D
 |.dct ks ds,.tup kd=>k_ ks ds kd
 |.fdc ks ds,.tup kd=>k_ ks ds kd
 |_,_=>.bad
theorem Same.rd {H H':Hp}{a:Addr}{u:HO}(s:Same H H')(h:Rd H a u):Rd H' a u:=by
 rcases h with h|⟨o,h⟩
 ·exact .inl (s _ _ h)
 ·exact .inr ⟨o,s _ _ h⟩
section
variable{X:Cx}{E:XK}
theorem nF {o i:Expr}{pos:Pos}{fo fi:DS→Res D}(hu:X.A.units+64<cLine)(ho:PD X E o fo)(hi:PD X E i fi)(hs:Bt i:=by intro _ _;rfl):PD X E (.Subscript o i pos) (ae fo fi cB):=by
 intro pins s σ G H ρ I hsm hro hok;refine aO (wI (pos:=pos) (by omega) (fS ho) (fS hi) hs pins s σ H (fun v H'=>∃d G',ae fo fi cB ρ= .ok d∧Ext G H G' H'∧Rep X.K G' d v) I ?_) fun u s' hZ144=>(by obtain⟨v,H',I',r',d,G',e,x,rp⟩:=hZ144;exact⟨d,e,v,G',H',I',r',x,rp⟩);refine⟨G,ρ,hsm,hro,hok.fst,fun d1 e1 v1 G1 H1 x1 p1=>⟨G1,ρ,x1.gh,hro.mono x1.gg,(hok.snd e1 x1.hh).fst,fun d2 e2 v2 G2 H2 x2 p2=>?_⟩⟩;have T:=(hok.snd e1 x1.hh).snd e2 x2.hh;have eo:ae fo fi cB ρ=cB d1 d2:=by unfold ae;rw[e1,aD,e2,aD]
 have go:∀{ks:List (List bF)} {ds kd:List D} {a:Addr} {S:List (List bF×V)},cB d1 d2=k_ ks ds kd→v1= .ref a→Rd G1 a (.dT S)→S.map (·.1)=ks→RepL X.K G1 ds (S.map (·.2))→Rep X.K G2 (.tup kd) v2→Er (fun _ H Q=>Q v1 H) (fun _ H Q=>Q v2 H) σ H2 (fun v H'=>∃d G',ae fo fi cB ρ= .ok d∧Ext G H G' H'∧Rep X.K G' d v):=fun {ks ds kd a S} ed ev rd hk rl p2=>by
  rw[ed]at T;unfold k_ at T;cases ek:g0 kd with
  |none=>rw[ek]at T;exact T.elim
  |some k=>
  rw[ek]at T;dsimp only at T;cases eq:sx ks ds k with
  |none=>rw[eq]at T;exact T.elim
  |some d=>
  rw[rep_tup]at p2;refine cps fun PP kP=>?_;refine bA (p2) fun b xs hS123 tb rk=>?_;subst hS123;subst hk;obtain⟨v,ev',rv⟩:=(uA (q:=k) rl).1 d eq;refine kP ?_;clear kP PP;have hx:=me rk ek;subst hx;refine(HL a v ev (.inr (jb S k b ((x2.gg.trans x2.gh).rd rd) rfl (x2.gh _ _ tb.h) ev'.symm)) d G2 ?_ (x1.trans x2) (rv.mono x2.gg));rw[eo,ed];unfold k_;rw[ek];dsimp only;rw[eq]
 cases d1 with
 |dct ks ds=>
  cases d2 with
  |tup kd=>
   rw[rep_dct]at p1;refine pG (p1) fun a S e rd hk rl=>?_;exact go rfl e rd hk rl p2
  |_=>exact T.elim
 |fdc ks ds=>
  cases d2 with
  |tup kd=>
   rw[rep_fdc]at p1;refine ja (p1) fun a o S e rd hk rl=>?_;exact go rfl e (.inr ⟨o,rd⟩) hk rl p2
  |_=>exact T.elim
 |_=>exact T.elim
end
section
variable{X:Cx}{E:XK}
noncomputable def yW:D→D→Res D
 |.str a,.str b=>if aS (a.length+b.length)=true then .ok (.str (a ++ b)) else .bad
 |_,_=>.bad
theorem do_addS:DOp X E (binaryOp .Add) yW:=DOp.of vw fun G H x y dx dy hs rx ry ok=>by
 unfold yW at ok ⊢;split at ok
 ·rename_i a b;rw[rep_str]at rx ry;subst rx ry;by_cases hz:aS (a.length+b.length)=true
  ·rw[if_pos hz];exact(HK a b rfl rfl (bP hz) _ G rfl (.refl hs) (rep_str.mpr rfl))
  ·rw[if_neg hz]at ok;exact ok.elim
 ·exact ok.elim
noncomputable def xq:D→D→Res D
 |.lst a,.lst b=>if aS (a.length+b.length)=true then .ok (.lst (a ++ b)) else .bad
 |_,_=>.bad
theorem EL:DOp X E (binaryOp .Add) xq:=DOp.of FX fun G H x y dx dy hs rx ry ok=>by
 unfold xq at ok ⊢;split at ok
 ·rename_i a b;rw[rep_lst]at rx ry;refine cps fun PP kP=>?_;refine bA (rx) fun p xs hS124 l1 r1=>?_;subst hS124;refine bA (ry) fun q ys hS125 l2 r2=>?_;subst hS125;refine kP ?_;clear kP PP;by_cases hz:aS (a.length+b.length)=true
  ·rw[if_pos hz];refine(Cz p q xs ys rfl rfl (hs _ _ l1.h) (hs _ _ l2.h) (by rw[←r1.length,←r2.length];exact bP hz) (fun t ht=>(dR _ _ rfl (.new hs ht _) ?_)));exact rep_lst.mpr (dR t _ rfl (.of au) ((r1.append r2).mono (Ext.new hs ht _).gg))
  ·rw[if_neg hz]at ok;exact ok.elim
 ·exact ok.elim
theorem RepL.flat {K:W.Frag}{G:Hp}{ds:List D}{vs:List V}(h:RepL K G ds vs):∀n:Nat,RepL K G (replicate n ds).flatten (replicate n vs).flatten
 |0=>.nil
 |n+1=>by rw[replicate_succ,replicate_succ,flatten_cons,flatten_cons];exact h.append (RepL.flat h n)
noncomputable def Gz:D→D→Res D
 |.lst a,.int k=>if (decide (-1000000≤k)&&decide (k≤1000000)&&aS (a.length*k.toNat))=true then .ok (.lst (replicate k.toNat a).flatten) else .bad
 |_,_=>.bad
theorem EM:DOp X E (binaryOp .Mult) Gz:=DOp.of F_ fun G H x y dx dy hs rx ry ok=>by
 unfold Gz at ok ⊢;split at ok
 ·rename_i a k;rw[rep_lst]at rx;rw[rep_int]at ry;subst ry;refine bA (rx) fun p xs hS126 l1 r1=>?_;subst hS126;by_cases hz:(decide (-1000000≤k)&&decide (k≤1000000)&&aS (a.length*k.toNat))=true
  ·rw[if_pos hz];simp only[and_eq_true,decide_eq_true_eq]at hz;refine⟨p,k,xs,rfl,rfl,hs _ _ l1.h,by omega,by omega,by rw[←r1.length];exact bP hz.2,fun t ht=>(dR _ _ rfl (.new hs ht _) ?_)⟩;exact rep_lst.mpr (dR t _ rfl (.of au) ((r1.flat _).mono (Ext.new hs ht _).gg))
  ·rw[if_neg hz]at ok;exact ok.elim
 ·exact ok.elim
noncomputable def El (g1 g2:D→D→Res D)(a b:D):Res D:=match g1 a b with
 |.bad=>g2 a b
 |r=>r
theorem DOp.or {f:Value→Value→Sem Value}{g1 g2:D→D→Res D}(h1:DOp X E f g1)(h2:DOp X E f g2):DOp X E f (El g1 g2):=by
 intro o s σ G H x y dx dy v u I hs rx ry rv ru ok;unfold El at ok ⊢;cases q:g1 dx dy with
 |bad=>
  rw[q]at ok;exact h2 o s σ G H x y dx dy v u I hs rx ry rv ru ok
 |ok d=>
  rw[q]at ok;have:=h1 o s σ G H x y dx dy v u I hs rx ry rv ru (by rw[q];exact ok);rw[q]at this;exact this
 |exc c=>
  rw[q]at ok;have:=h1 o s σ G H x y dx dy v u I hs rx ry rv ru (by rw[q];exact ok);rw[q]at this;exact this
noncomputable def aZ:D→D→Res D:=El yV (El yW xq)
noncomputable def fO:D→D→Res D:=El yg Gz
theorem aA:DOp X E (binaryOp .Add) aZ:=do_add.or (do_addS.or EL)
theorem dq:DOp X E (binaryOp .Mult) fO:=do_mul.or EM
theorem ol {i j:Int}:aZ (.int i) (.int j)= .ok (.int (i+j)):=id rfl
theorem om {a b:List D}(h:aS (a.length+b.length)=true):aZ (.lst a) (.lst b)= .ok (.lst (a ++ b)):=by
 show xq (.lst a) (.lst b)=_;exact if_pos h
end
section
variable{X:Cx}{E:XK}{tg:Expr}
end
section
variable{X:Cx}{E:XK}
end
section
variable{X:Cx}{E:XK}
end
section
variable{X:Cx}{E:XK}{pins:List (Addr×Obj)}{σ:St}{H:Hp}{s:Shared}
end
section
variable{X:Cx}{E:XK}{pins:List (Addr×Obj)}{σ:St}{H:Hp}{s:Shared}
end
section
variable{X:Cx}{pins:List (Addr×Obj)}{σ:St}{H:Hp}{s:Shared}{scope:Scope}{N:List Str}{caps:List (Option Nat)}
end
section
variable{X:Cx}{pins:List (Addr×Obj)}{σ:St}{H:Hp}{s:Shared}{scope:Scope}{N:List Str}{caps:List (Option Nat)}{E:XK}
end
section
variable{X:Cx}{E:XK}
end
section
variable{X:Cx}{CX:sH}{k:Nat}{f C:Addr}{fd:FuncData}{ps:List Str}{sp:Sp}{dvs:List V}{ds:List Value}{E:XK}
end
end L2
namespace TX
open PySem PySem.Builtin PySem.Builtin.Str PySem.StrLaws
end TX
namespace L2
open PySem PySem.Spec PyProof.Rows
section
variable{X:Cx}{E:XK}
end
end L2
namespace PySem
open Sem (wp)
end PySem
namespace L2
open PySem PySem.Spec PyProof.Rows
section
variable{X:Cx}{E:XK}{e:Expr}{f:DS→Res D}{p pos:Pos}
theorem wA {g:List D→Res D}:bL (fun ρ=>(f ρ).bind fun d=>(Res.ok []:Res (List D)).bind fun ds=>.ok (d::ds)) g=fun ρ=>(f ρ).bind fun a=>g [a]:=funext fun ρ=>by
 show ((f ρ).bind _).bind _=_;cases f ρ <;> rfl
theorem EU {a b:Str}:Bp (.str a) (.str b)= .ok (.bl (a==b)):=id rfl
theorem Fk {a b:Str}:sG (.str a) (.str b)= .ok (.bl (!(a==b))):=id rfl
end
mutual
noncomputable def flat:D→Bool
 |.lst _=>false
 |.dct _ _=>false
 |.fdc _ _=>false
 |.scr _=>false
 |.tup l=>flats l
 |.ins _ _ l=>flats l
 |_=>true
noncomputable def flats:List D→Bool
 | []=>true
 |d::ds=>flat d&&flats ds
end
theorem iM:∀(ns:List Int),flats (ns.map D.int)=true:=by
 intro l_
 induction l_ with
 |nil=>
  exact by unfold flats;rfl
 |cons n ns ihh=>
  exact by rw[map_cons];unfold flats;rw[ihh];unfold flat;rfl
noncomputable def isCell (S:Addr→Prop)(o:HO):Prop:=(∃xs,o= .lst xs)∨(∃kvs,o= .dT kvs)∨∃xs b,o= .tup xs∧V.ref b∈xs∧S b
theorem isCell.mono {S T:Addr→Prop}{o:HO}(k:∀a,S a→T a)(h:isCell S o):isCell T o:=h.imp id (Or.imp id fun hZ145=>(by refine bA (hZ145) fun xs b e m s=>?_;exact(dR xs b e m (k b s))))
theorem isCell.nokey {S:Addr→Prop}{o:HO}(h:isCell S o):¬oH o:=by
 intro hZ13;obtain⟨ks,rfl⟩:=hZ13
 rcases h with ⟨xs,e⟩|⟨kvs,e⟩|⟨xs,b,e,m,s⟩
 ·cases e
 ·cases e
 ·cases e;obtain⟨k,_,e⟩:=mem_map.mp m;cases k with
  |inl i=>cases e
  |inr x=>cases e
noncomputable def ql (W:Addr→Prop)(G:Hp):Hp:=fun b=> @ite _ (W b) (Classical.propDecidable _) none (G b)
theorem lu {W:Addr→Prop}{G:Hp}{b:Addr}{o:HO}(h:ql W G b=some o):¬W b∧G b=some o:=by
 unfold ql at h;by_cases q:W b
 ·rw[if_pos q]at h;cases h
 ·rw[if_neg q]at h;exact⟨q,h⟩
theorem rz {W:Addr→Prop}{G:Hp}{b:Addr}{o:HO}(h1:¬W b)(h2:G b=some o):ql W G b=some o:=by
 unfold ql;rw[if_neg h1];exact h2
theorem Fu {W:Addr→Prop}{G:Hp}{b:Addr}(h1:W b):ql W G b=none:=by
 unfold ql;rw[if_pos h1]
mutual
theorem Rep.nocell {K:W.Frag}{G:Hp}{W:Addr→Prop}(hl:∀b o,W b→G b=some o→isCell W o):∀{d:D} {v:V},L2.flat d=true→Rep K G d v→∀a,v= .ref a→¬W a
 |.non,_,_,h,a,e=>by unfold Rep at h;subst h;cases e
 |.bl _,_,_,h,a,e=>by unfold Rep at h;subst h;cases e
 |.int _,_,_,h,a,e=>by unfold Rep at h;subst h;cases e
 |.str _,_,_,h,a,e=>by unfold Rep at h;subst h;cases e
 |.lst ds,_,ha,_,_,_=>by unfold L2.flat at ha;cases ha
 |.dct _ _,_,ha,_,_,_=>by unfold L2.flat at ha;cases ha
 |.fdc _ _,_,ha,_,_,_=>by unfold L2.flat at ha;cases ha
 |.scr _,_,ha,_,_,_=>by unfold L2.flat at ha;cases ha
 |.tup ds,_,ha,h,a,e=>fun w=>by
  unfold Rep at h;unfold L2.flat at ha;refine bA (h) fun a' ys r s t=>?_;subst r;cases e
  rcases hl a _ w s.h with ⟨vs,z⟩|⟨vs,z⟩|⟨vs,b,z,m,wb⟩
  ·cases z
  ·cases z
  ·cases z;exact RepL.nocell hl ha t (.ref b) m b rfl wb
 |.ins _ _ ds,_,ha,h,a,e=>fun w=>by
  unfold Rep at h;refine ja (h) fun a' dx fs r s n t=>?_;subst r;cases e
  rcases hl a _ w s with ⟨vs,z⟩|⟨vs,z⟩|⟨vs,b,z,m,wb⟩ <;> cases z
 |.xc _,_,_,h,a,e=>fun w=>by
  unfold Rep at h;refine cj (h) fun a' r s _=>?_;subst r;cases e
  rcases hl a _ w s with ⟨vs,z⟩|⟨vs,z⟩|⟨vs,b,z,m,wb⟩ <;> cases z
theorem RepL.nocell {K:W.Frag}{G:Hp}{W:Addr→Prop}(hl:∀b o,W b→G b=some o→isCell W o):∀{ds:List D} {vs:List V},flats ds=true→RepL K G ds vs→∀v∈vs,∀a,v= .ref a→¬W a
 | [],_,_,h,v,m=>by unfold RepL at h;subst h;cases m
 |_::_,_,ha,h,v,m=>by
  unfold RepL at h;unfold flats at ha;rw[and_eq_true]at ha;refine bA (h) fun w r q a b=>?_;subst q
  rcases mem_cons.mp m with z|z
  ·subst z;exact Rep.nocell hl ha.1 a
  ·exact RepL.nocell hl ha.2 b v z
end
mutual
theorem Rep.lfree {K:W.Frag}{G:Hp}{W:Addr→Prop}(hl:∀b o,W b→G b=some o→isCell W o):∀{d:D} {v:V},L2.flat d=true→Rep K G d v→Rep K (ql W G) d v
 |.non,_,_,h=>by unfold Rep at h ⊢;exact h
 |.bl _,_,_,h=>by unfold Rep at h ⊢;exact h
 |.int _,_,_,h=>by unfold Rep at h ⊢;exact h
 |.str _,_,_,h=>by unfold Rep at h ⊢;exact h
 |.lst ds,_,ha,h=>by unfold L2.flat at ha;cases ha
 |.dct _ _,_,ha,h=>by unfold L2.flat at ha;cases ha
 |.fdc _ _,_,ha,h=>by unfold L2.flat at ha;cases ha
 |.scr _,_,ha,h=>by unfold L2.flat at ha;cases ha
 |.tup ds,v,ha,h=>by
  have nc:=Rep.nocell hl ha h;unfold Rep at h ⊢;unfold L2.flat at ha;refine bA (h) fun a ys r s t=>?_;exact(dR a ys r ⟨rz (nc a r) s.h⟩ (RepL.lfree hl ha t))
 |.ins _ _ ds,v,ha,h=>by
  have nc:=Rep.nocell hl ha h;unfold Rep at h ⊢;unfold L2.flat at ha;refine ja (h) fun a dx fs r s n t=>?_;exact(jb a dx fs r (rz (nc a r) s) n (RepL.lfree hl ha t))
 |.xc _,v,ha,h=>by
  have nc:=Rep.nocell hl ha h;unfold Rep at h ⊢;refine cj (h) fun a r s k=>?_;exact(gW a r (rz (nc a r) s) k)
theorem RepL.lfree {K:W.Frag}{G:Hp}{W:Addr→Prop}(hl:∀b o,W b→G b=some o→isCell W o):∀{ds:List D} {vs:List V},flats ds=true→RepL K G ds vs→RepL K (ql W G) ds vs
 | [],_,_,h=>by unfold RepL at h ⊢;exact h
 |_::_,_,ha,h=>by
  unfold RepL at h ⊢;unfold flats at ha;rw[and_eq_true]at ha;refine bA (h) fun v r q a b=>?_;exact(dR v r q (Rep.lfree hl ha.1 a) (RepL.lfree hl ha.2 b))
end
noncomputable def AllW (P:D→V→List Addr→Prop):List D→List V→List Addr→Prop
 | [],vs,S=>vs=[]∧S=[]
 |d::ds,vs,S=>∃v r A B,vs=v::r∧S=A ++ B∧P d v A∧AllW P ds r B
noncomputable def Ow (K:W.Frag)(G H:Hp):Nat→D→V→List Addr→Prop
 |0,d,v,S=>S=[]∧Rep K G d v
 |n+1,.lst ds,v,S=>∃a xs T,v= .ref a∧H a=some (.lst xs)∧S=a::T∧AllW (Ow K G H n) ds xs T
 |n+1,.dct ks ds,v,S=>∃a kvs T,v= .ref a∧H a=some (.dT kvs)∧kvs.map (·.1)=ks∧S=a::T∧AllW (Ow K G H n) ds (kvs.map (·.2)) T
 |n+1,.tup ds,v,S=>(L2.flat (.tup ds)=true∧S=[]∧Rep K G (.tup ds) v)∨∃a xs T,v= .ref a∧H a=some (.tup xs)∧S=a::T∧T≠[]∧AllW (Ow K G H n) ds xs T
 |_+1,d,v,S=>L2.flat d=true∧S=[]∧Rep K G d v
noncomputable def cC:Nat→D→Bool
 |0,d=>L2.flat d
 |n+1,.lst ds=>ds.all (cC n)
 |n+1,.dct _ ds=>ds.all (cC n)
 |n+1,.tup ds=>L2.flat (.tup ds)||ds.all (cC n)
 |_+1,d=>L2.flat d
theorem lY:∀{ds:List D},flats ds=true→∀{d:D},d∈ds→L2.flat d=true:=by
 intro l_
 induction l_ with
 |nil=>
  rintro _ _ m;exact by cases m
 |cons d0 ds ihh=>
  rintro h d m;unfold flats at h;rw[and_eq_true]at h
  rcases mem_cons.mp m with z|z
  ·subst z;exact h.1
  ·exact ihh h.2 z
theorem g_ {d:D}(h:L2.flat d=true):∀{n:Nat},cC n d=true
 |0=>h
 |n+1=>by
  cases d with
  |lst ds=>unfold L2.flat at h;cases h
  |dct ks ds=>unfold L2.flat at h;cases h
  |tup ds=>unfold cC;rw[h];rfl
  |_=>unfold cC;exact h
section
variable{K:W.Frag}{G H G' H':Hp}
theorem AllW.mono {P Q:D→V→List Addr→Prop}:∀{ds:List D} {vs:List V} {S:List Addr},(∀d v A,d∈ds→(∀a∈A,a∈S)→P d v A→Q d v A)→AllW P ds vs S→AllW Q ds vs S:=by
 intro l_
 induction l_ with
 |nil=>
  rintro _ _ _ h;exact h
 |cons d ds ihh=>
  rintro _ _ k h;refine pH (h) fun v r A B e1 e2 h1 h2=>?_;subst e2;exact(oE v r A B e1 rfl (k d v A (mem_cons_self ..) (fun a ha=>mem_append_left _ ha) h1) (ihh (fun d' v' A' hd ha=>k d' v' A' (cR hd) fun a h=>mem_append_right _ (ha a h)) h2))
theorem AllW.length {P:D→V→List Addr→Prop}:∀{ds:List D} {vs:List V} {S:List Addr},AllW P ds vs S→ds.length=vs.length:=by
 intro l_
 induction l_ with
 |nil=>
  rintro _ _ h;exact by rw[h.1];rfl
 |cons d ds ihh=>
  rintro _ _ h;refine pH (h) fun v r A B e1 e2 h1 h2=>?_;subst e1;rw[length_cons,length_cons,ihh h2]
theorem AllW.append {P:D→V→List Addr→Prop}:∀{ds es:List D} {vs ws:List V} {S T:List Addr},AllW P ds vs S→AllW P es ws T→AllW P (ds ++ es) (vs ++ ws) (S ++ T):=by
 intro l_
 induction l_ with
 |nil=>
  rintro _ _ _ _ _ h h';exact by rw[h.1,h.2];exact h'
 |cons d ds ihh=>
  rintro _ _ _ _ _ h h';refine pH (h) fun v r A B e1 e2 h1 h2=>?_;subst e1 e2;exact(oE v _ A _ rfl (append_assoc ..) h1 (ihh h2 h'))
theorem AllW.one {P:D→V→List Addr→Prop}{d:D}{v:V}{S:List Addr}(h:P d v S):AllW P [d] [v] S:=(Cy v ([]) S ([]) rfl ((append_nil _).symm) h rfl rfl)
theorem AllW.at {P:D→V→List Addr→Prop}:∀{ds:List D} {vs:List V} {S:List Addr} {i:Nat} {d:D},AllW P ds vs S→ds[i]?=some d→
  ∃v A L R,vs[i]?=some v∧S=L ++ A ++ R∧P d v A∧(∀Q:D→V→List Addr→Prop,(∀d v B,(∀b∈B,b∈L∨b∈R)→P d v B→Q d v B)→∀d' v' A',Q d' v' A'→AllW Q (ds.set i d') (vs.set i v') (L ++ A' ++ R))
 | [],_,_,_,_,_,e=>by simp at e
 |d0::ds,_,_,0,d,h,e=>by
  refine pH (h) fun v r A B e1 e2 h1 h2=>?_;subst e1 e2;simp at e;subst e;refine(oE v A ([]) B rfl (by simp) h1 (fun Q k d' v' A' hq=>(oE v' r A' B rfl (by simp) hq (AllW.mono (fun d v B' _ hb hp=>k d v B' (fun b hb'=>.inr (hb b hb')) hp) h2))))
 |d0::ds,_,_,i+1,d,h,e=>by
  refine pH (h) fun v r A B e1 e2 h1 h2=>?_;subst e1 e2;refine pH (AllW.at (i:=i) h2 (by simpa using e)) fun w A2 L R g1 g2 g3 g4=>?_;refine(oE w A2 (A ++ L) R (by simpa using g1) (by rw[g2];simp only[append_assoc]) g3 (fun Q k d' v' A' hq=>(oE v (r.set i v') A (L ++ A' ++ R) rfl (by simp only[append_assoc]) (k d0 v A (fun b hb=>.inl (mem_append_left _ hb)) h1) (g4 Q (fun d v B hb hp=>k d v B (fun b hb'=>(hb b hb').imp (mem_append_right _) id) hp) d' v' A' hq))))
theorem Ow.mono (sg:Same G G'):∀{n:Nat} {d:D} {v:V} {S:List Addr},(∀a∈S,∀o,H a=some o→H' a=some o)→Ow K G H n d v S→Ow K G' H' n d v S:=by
 intro l_
 induction l_ with
 |zero=>
  rintro _ _ _ _ h;exact⟨h.1,h.2.mono sg⟩
 |succ n ihh=>
  rintro d _ _ k h;cases d with
  |lst ds=>
   refine ja (h) fun a xs T e1 e2 e3 h1=>?_;subst e3;exact(jb a xs T e1 (k a (mem_cons_self ..) _ e2) rfl (h1.mono fun d v A _ hA=>ihh fun b hb o e=>k b (cR (hA b hb)) o e))
  |dct ks ds=>
   refine ie (h) fun a xs T e1 e2 e4 e3 h1=>?_;subst e3;exact(nC a xs T e1 (k a (mem_cons_self ..) _ e2) e4 rfl (h1.mono fun d v A _ hA=>ihh fun b hb o e=>k b (cR (hA b hb)) o e))
  |tup ds=>
   rcases h with h|⟨a,xs,T,e1,e2,e3,e5,h1⟩
   ·exact .inl ⟨h.1,h.2.1,h.2.2.mono sg⟩
   ·subst e3;exact .inr (nC a xs T e1 (k a (mem_cons_self ..) _ e2) rfl e5 (h1.mono fun d v A _ hA=>ihh fun b hb o e=>k b (cR (hA b hb)) o e))
  |_=>exact⟨h.1,h.2.1,h.2.2.mono sg⟩
theorem AllW.rep {P:D→V→List Addr→Prop}{V':Hp}:∀{ds:List D} {vs:List V} {S:List Addr},(∀d v A,(∀a∈A,a∈S)→P d v A→Rep K V' d v)→AllW P ds vs S→RepL K V' ds vs:=by
 intro l_
 induction l_ with
 |nil=>
  rintro _ _ _ h;exact by rw[h.1];exact .nil
 |cons d ds ihh=>
  rintro _ _ k h;refine pH (h) fun v r A B e1 e2 h1 h2=>?_;subst e1 e2;exact .cons (k d v A (fun a ha=>mem_append_left _ ha) h1) (ihh (fun d' v' A' ha=>k d' v' A' fun a h=>mem_append_right _ (ha a h)) h2)
theorem Ow.rep {V':Hp}(sg:Same G V'):∀{n:Nat} {d:D} {v:V} {S:List Addr},(∀a∈S,∀o,H a=some o→V' a=some o)→Ow K G H n d v S→Rep K V' d v:=by
 intro l_
 induction l_ with
 |zero=>
  rintro _ _ _ _ h;exact h.2.mono sg
 |succ n ihh=>
  rintro d _ _ k h;cases d with
  |lst ds=>
   refine ja (h) fun a xs T e1 e2 e3 h1=>?_;subst e3;exact rep_lst.mpr (dR a xs e1 (.of (k a (mem_cons_self ..) _ e2)) (h1.rep fun d v A hA=>ihh fun b hb o e=>k b (cR (hA b hb)) o e))
  |dct ks ds=>
   refine ie (h) fun a xs T e1 e2 e4 e3 h1=>?_;subst e3;exact rep_dct.mpr (l9 a xs e1 (.inl (k a (mem_cons_self ..) _ e2)) e4 (h1.rep fun d v A hA=>ihh fun b hb o e=>k b (cR (hA b hb)) o e))
  |tup ds=>
   rcases h with h|⟨a,xs,T,e1,e2,e3,e5,h1⟩
   ·exact h.2.2.mono sg
   ·subst e3;exact rep_tup.mpr (dR a xs e1 (.of (k a (mem_cons_self ..) _ e2)) (h1.rep fun d v A hA=>ihh fun b hb o e=>k b (cR (hA b hb)) o e))
  |_=>exact h.2.2.mono sg
theorem AllW.cell {P:D→V→List Addr→Prop}{C:Addr→Prop}:∀{ds:List D} {vs:List V} {S:List Addr},(∀d v A,P d v A→∀a∈A,C a)→AllW P ds vs S→∀a∈S,C a:=by
 intro l_
 induction l_ with
 |nil=>
  rintro _ _ _ h a ha;exact by rw[h.2]at ha;cases ha
 |cons d ds ihh=>
  rintro _ _ k h a ha;refine pH (h) fun v r A B e1 e2 h1 h2=>?_;subst e2
  rcases mem_append.mp ha with z|z
  ·exact k d v A h1 a z
  ·exact ihh k h2 a z
theorem AllW.hasC {P:D→V→List Addr→Prop}(hP:∀d v A,P d v A→A≠[]→∃b,v= .ref b∧b∈A):∀{ds:List D} {vs:List V} {S:List Addr},AllW P ds vs S→S≠[]→∃b,V.ref b∈vs∧b∈S:=by
 intro l_
 induction l_ with
 |nil=>
  rintro _ _ h n;exact absurd h.2 n
 |cons d ds ihh=>
  rintro _ _ h n;refine pH (h) fun v r A B e1 e2 h1 h2=>?_;subst e1 e2;by_cases z:A=[]
  ·obtain⟨b,hb,hb'⟩:=ihh h2 (fun y=>n (by rw[z,y];rfl));exact⟨b,cR hb,mem_append_right _ hb'⟩
  ·obtain⟨b,e,hb⟩:=hP d v A h1 z;exact⟨b,by rw[e];exact mem_cons_self ..,mem_append_left _ hb⟩
theorem Ow.head:∀{n:Nat} {d:D} {v:V} {S:List Addr},Ow K G H n d v S→S≠[]→∃b,v= .ref b∧b∈S
 |0,_,_,_,h,n=>absurd h.1 n
 |n+1,d,_,_,h,hn=>by
  cases d with
  |lst ds=>refine ja (h) fun a xs T e1 e2 e3 h1=>?_;exact⟨a,e1,by rw[e3];exact mem_cons_self ..⟩
  |dct ks ds=>refine ie (h) fun a xs T e1 e2 e4 e3 h1=>?_;exact⟨a,e1,by rw[e3];exact mem_cons_self ..⟩
  |tup ds=>
   rcases h with h|⟨a,xs,T,e1,e2,e3,e5,h1⟩
   ·exact absurd h.2.1 hn
   ·exact⟨a,e1,by rw[e3];exact mem_cons_self ..⟩
  |_=>exact absurd h.2.1 hn
theorem AllW.cell2 {P:D→V→List Addr→Prop}{C:(Addr→Prop)→Addr→Prop}(mo:∀S T a,(∀b,S b→T b)→C S a→C T a):∀{ds:List D} {vs:List V} {S:List Addr},(∀d v A,P d v A→∀a∈A,C (· ∈A) a)→AllW P ds vs S→∀a∈S,C (· ∈S) a:=by
 intro l_
 induction l_ with
 |nil=>
  rintro _ _ _ h a ha;exact by rw[h.2]at ha;cases ha
 |cons d ds ihh=>
  rintro _ _ k h a ha;refine pH (h) fun v r A B e1 e2 h1 h2=>?_;subst e2
  rcases mem_append.mp ha with z|z
  ·exact mo _ _ a (fun b hb=>mem_append_left _ hb) (k d v A h1 a z)
  ·exact mo _ _ a (fun b hb=>mem_append_right _ hb) (ihh k h2 a z)
theorem Ow.cell:∀{n:Nat} {d:D} {v:V} {S:List Addr},Ow K G H n d v S→∀a∈S,∃o,H a=some o∧isCell (· ∈S) o:=by
 intro l_
 induction l_ with
 |zero=>
  rintro _ _ _ h a ha;exact by rw[h.1]at ha;cases ha
 |succ n ihh=>
  rintro d _ _ h b hb;have mo:∀(S T:Addr→Prop) (a:Addr),(∀b,S b→T b)→(∃o,H a=some o∧isCell S o)→∃o,H a=some o∧isCell T o:=fun S T a k hZ146=>(by obtain⟨o,e,c⟩:=hZ146;exact⟨o,e,c.mono k⟩);have up:∀{x:Addr} {T:List Addr},(∃o,H b=some o∧isCell (· ∈T) o)→∃o,H b=some o∧isCell (· ∈x::T) o:=fun hZ147=>(by obtain⟨o,e,c⟩:=hZ147;exact⟨o,e,c.mono fun a ha=>cR ha⟩);cases d with
  |lst ds=>
   refine ja (h) fun a xs T e1 e2 e3 h1=>?_;subst e3
   rcases mem_cons.mp hb with z|z
   ·subst z;exact⟨_,e2,.inl ⟨xs,rfl⟩⟩
   ·exact up (h1.cell2 (C:=fun S a=>∃o,H a=some o∧isCell S o) mo (fun _ _ _ q=>ihh q) b z)
  |dct ks ds=>
   refine ie (h) fun a xs T e1 e2 e4 e3 h1=>?_;subst e3
   rcases mem_cons.mp hb with z|z
   ·subst z;exact⟨_,e2,.inr (.inl ⟨xs,rfl⟩)⟩
   ·exact up (h1.cell2 (C:=fun S a=>∃o,H a=some o∧isCell S o) mo (fun _ _ _ q=>ihh q) b z)
  |tup ds=>
   rcases h with h|⟨a,xs,T,e1,e2,e3,e5,h1⟩
   ·rw[h.2.1]at hb;cases hb
   ·subst e3
    rcases mem_cons.mp hb with z|z
    ·subst z;obtain⟨c,hc,hc'⟩:=h1.hasC (fun _ _ _ q=>Ow.head q) e5;exact⟨_,e2,.inr (.inr (dR xs c rfl hc (cR hc')))⟩
    ·exact up (h1.cell2 (C:=fun S a=>∃o,H a=some o∧isCell S o) mo (fun _ _ _ q=>ihh q) b z)
  |_=>rw[h.2.1]at hb;cases hb
theorem Ow.hide {W:Addr→Prop}(hl:∀b o,W b→G b=some o→isCell W o):∀{n:Nat} {d:D} {v:V} {S:List Addr},cC n d=true→Ow K G H n d v S→Ow K (ql W G) H n d v S:=by
 intro l_
 induction l_ with
 |zero=>
  rintro _ _ _ hf h;exact⟨h.1,Rep.lfree hl hf h.2⟩
 |succ n ihh=>
  rintro d _ _ hf h;cases d with
  |lst ds=>
   refine ja (h) fun a xs T e1 e2 e3 h1=>?_;unfold cC at hf;exact(jb a xs T e1 e2 e3 (h1.mono fun d v A hd _=>ihh (all_eq_true.mp hf d hd)))
  |dct ks ds=>
   refine ie (h) fun a xs T e1 e2 e4 e3 h1=>?_;unfold cC at hf;exact(nC a xs T e1 e2 e4 e3 (h1.mono fun d v A hd _=>ihh (all_eq_true.mp hf d hd)))
  |tup ds=>
   rcases h with h|⟨a,xs,T,e1,e2,e3,e5,h1⟩
   ·exact .inl ⟨h.1,h.2.1,Rep.lfree hl h.1 h.2.2⟩
   ·refine .inr (nC a xs T e1 e2 e3 e5 (h1.mono fun d v A hd _=>ihh ?_));unfold cC at hf;rw[or_eq_true]at hf
    rcases hf with z|z
    ·unfold L2.flat at z;exact g_ (lY z hd)
    ·exact all_eq_true.mp z d hd
  |_=>exact⟨h.1,h.2.1,Rep.lfree hl h.1 h.2.2⟩
end
noncomputable def rB (fp:Nat→List Addr)(a:Addr):Prop:=∃i,a∈fp i
noncomputable def pX (fp:Nat→List Addr)(G H:Hp):Hp:=fun b=> @ite _ (rB fp b) (Classical.propDecidable _) (H b) (G b)
structure Rw (K:W.Frag)(μ:List Nat)(Ge B G H:Hp)(σ:St)(ρ:DS)(fp:Nat→List Addr):Prop where
 gh:Same G H
 eg:Same Ge G
 bh:Same B H
 nw:∀b o,G b=some o→Ge b=some o∨B b=none∨oH o
 gf:∀i a,a∈fp i→G a=none
 ob:∀i a,a∈fp i→B a=none
 oc:∀i a,a∈fp i→∃o,H a=some o∧isCell (· ∈fp i) o
 nd:∀i,(fp i).Nodup
 dj:∀i j a,a∈fp i→a∈fp j→i=j
 sl:∀i d,ρ[i]?=some (some d)→∃v,σ[i]?=some (some v)∧Ow K G H (μ.getD i 0) d v (fp i)
section
variable{K:W.Frag}{μ:List Nat}{Ge B G H G' H':Hp}{σ:St}{ρ:DS}{fp:Nat→List Addr}
theorem Bj {b:Addr}(h:rB fp b):pX fp G H b=H b:=by unfold pX;rw[if_pos h]
theorem nQ {b:Addr}(h:¬rB fp b):pX fp G H b=G b:=by unfold pX;rw[if_neg h]
theorem Rw.vh (R:Rw K μ Ge B G H σ ρ fp):Same (pX fp G H) H:=fun b o e=>by
 by_cases q:rB fp b
 ·rw[Bj q]at e;exact e
 ·rw[nQ q]at e;exact R.gh b o e
theorem Rw.gv (R:Rw K μ Ge B G H σ ρ fp):Same G (pX fp G H):=fun b o e=>by
 by_cases q:rB fp b
 ·obtain⟨i,hi⟩:=q;rw[R.gf i b hi]at e;cases e
 ·rw[nQ q];exact e
theorem Rw.ro (R:Rw K μ Ge B G H σ ρ fp):Ro K (pX fp G H) σ ρ:=fun i d e=>by
 obtain⟨v,hv,h⟩:=R.sl i d e;exact⟨v,hv,h.rep R.gv fun a ha o eo=>by rw[Bj ⟨i,ha⟩];exact eo⟩
noncomputable def gZ (μ:List Nat)(ρ:DS):DS:=ρ.mapIdx fun i o=>if μ.getD i 0=0 then o else none
theorem Rw.rof (R:Rw K μ Ge B G H σ ρ fp):Ro K G σ (gZ μ ρ):=fun i d e=>by
 unfold gZ at e;rw[List.getElem?_mapIdx]at e;cases q:ρ[i]? with
 |none=>rw[q]at e;cases e
 |some o=>
  rw[q]at e;simp only[map_some,Option.some.injEq]at e;by_cases m:μ.getD i 0=0
  ·rw[if_pos m]at e;subst e;obtain⟨v,hv,h⟩:=R.sl i d q;rw[m]at h;exact⟨v,hv,h.2⟩
  ·rw[if_neg m]at e;cases e
theorem Rw.gg (R:Rw K μ Ge B G H σ ρ fp)(x:Ext (pX fp G H) H G' H'):Same G (ql (rB fp) G'):=fun b o e=>by
 by_cases q:rB fp b
 ·obtain⟨i,hi⟩:=q;rw[R.gf i b hi]at e;cases e
 ·exact rz q (x.gg b o (R.gv b o e))
theorem Rw.grow (R:Rw K μ Ge B G H σ ρ fp)(x:Ext (pX fp G H) H G' H'):Rw K μ Ge B (ql (rB fp) G') H' σ ρ fp:=by
 refine⟨fun b o e=>x.gh b o (lu e).2,R.eg.trans (R.gg x),R.bh.trans x.hh,fun b o e=>?_,fun i a e=>Fu ⟨i,e⟩,R.ob,fun i a e=>?_,R.nd,R.dj,fun i d e=>?_⟩
 ·obtain⟨n,e1⟩:=lu e
  rcases x.nw b o e1 with z|z
  ·rw[nQ n]at z;exact R.nw b o z
  ·exact .inr (z.imp R.bh.free id)
 ·obtain⟨o,h1,h2⟩:=R.oc i a e;exact⟨o,x.hh _ _ h1,h2⟩
 ·obtain⟨v,hv,h⟩:=R.sl i d e;exact⟨v,hv,h.mono (R.gg x) fun a _ o ho=>x.hh a o ho⟩
theorem Rw.growF (R:Rw K μ Ge B G H σ ρ fp)(x:Ext G H G' H'):Rw K μ Ge B G' H' σ ρ fp:=by
 refine⟨x.gh,R.eg.trans x.gg,R.bh.trans x.hh,fun b o e=>?_,fun i a e=>?_,R.ob,fun i a e=>?_,R.nd,R.dj,fun i d e=>?_⟩
 ·rcases x.nw b o e with z|z
  ·exact R.nw b o z
  ·exact .inr (z.imp R.bh.free id)
 ·cases z:G' a with
  |none=>rfl
  |some o=>
   rcases x.nw a o z with y|y
   ·rw[R.gf i a e]at y;cases y
   ·obtain⟨o',h,hc⟩:=R.oc i a e
    rcases y with y|y
    ·rw[y]at h;cases h
    ·have h2:=x.gh a o z;rw[x.hh a _ h]at h2;cases h2;exact(hc.nokey y).elim
 ·obtain⟨o,h1,h2⟩:=R.oc i a e;exact⟨o,x.hh _ _ h1,h2⟩
 ·obtain⟨v,hv,h⟩:=R.sl i d e;exact⟨v,hv,h.mono x.gg fun a _ o ho=>x.hh a o ho⟩
theorem Rw.cells (R:Rw K μ Ge B G H σ ρ fp)(x:Ext (pX fp G H) H G' H'):∀b o,rB fp b→G' b=some o→isCell (rB fp) o:=fun b o ⟨i,hi⟩ e=>by
 obtain⟨o',h1,h2⟩:=R.oc i b hi;have h3:=x.gh b o e;rw[x.hh b _ h1]at h3;cases h3;exact h2.mono fun a ha=>⟨i,ha⟩
theorem Rw.put {i:Nat}{d:D}{v:V}{S:List Addr}(R:Rw K μ Ge B G H σ ρ fp)(hi:i<σ.length)(h:Ow K G H (μ.getD i 0) d v S)(nd:S.Nodup)(hS:∀a∈S,G a=none∧B a=none)(hd:∀j,j≠i→∀a∈S,a∉fp j):Rw K μ Ge B G H (σ.set i (some v)) (ρ.set i (some d)) (fun j=>if j=i then S else fp j):=by
 refine⟨R.gh,R.eg,R.bh,R.nw,fun j a e=>?_,fun j a e=>?_,fun j a e=>?_,fun j=>?_,fun j k a ej ek=>?_,fun j e q=>?_⟩
 ·split at e
  ·exact(hS a e).1
  ·exact R.gf j a e
 ·split at e
  ·exact(hS a e).2
  ·exact R.ob j a e
 ·by_cases hj:j=i
  ·simp only[if_pos hj]at e ⊢;exact h.cell a e
  ·simp only[if_neg hj]at e ⊢;exact R.oc j a e
 ·split
  ·exact nd
  ·exact R.nd j
 ·skip
  split at ej
  ·rename_i z1;split at ek
   ·rename_i z2;rw[z1,z2]
   ·rename_i z2;exact absurd ek (hd k z2 a ej)
  ·rename_i z1;split at ek
   ·rename_i z2;exact absurd ej (hd j z1 a ek)
   ·exact R.dj j k a ej ek
 ·by_cases hj:j=i
  ·subst hj;rw[List.getElem?_set_self']at q;cases z:ρ[j]? with
   |none=>rw[z]at q;cases q
   |some o=>
    rw[z]at q;cases q;rw[if_pos rfl];exact⟨v,getElem?_set_self hi,h⟩
  ·rw[getElem?_set_ne (Ne.symm hj)]at q ⊢;rw[if_neg hj];exact R.sl j e q
theorem Rw.drop {i:Nat}(R:Rw K μ Ge B G H σ ρ fp):Rw K μ Ge B G H σ (ρ.set i none) (fun j=>if j=i then [] else fp j):=by
 refine⟨R.gh,R.eg,R.bh,R.nw,fun j a e=>?_,fun j a e=>?_,fun j a e=>?_,fun j=>?_,fun j k a ej ek=>?_,fun j e q=>?_⟩
 ·split at e
  ·cases e
  ·exact R.gf j a e
 ·split at e
  ·cases e
  ·exact R.ob j a e
 ·by_cases hj:j=i
  ·simp only[if_pos hj]at e;cases e
  ·simp only[if_neg hj]at e ⊢;exact R.oc j a e
 ·split
  ·exact nodup_nil
  ·exact R.nd j
 ·skip
  split at ej
  ·cases ej
  ·split at ek
   ·cases ek
   ·exact R.dj j k a ej ek
 ·by_cases hj:j=i
  ·subst hj;rw[List.getElem?_set_self']at q;cases z:ρ[j]? with
   |none=>rw[z]at q;cases q
   |some o=>rw[z]at q;cases q
  ·rw[getElem?_set_ne (Ne.symm hj)]at q;rw[if_neg hj];exact R.sl j e q
theorem Rw.write {i:Nat}{a:Addr}{ob:HO}{d:D}{v:V}{S:List Addr}(R:Rw K μ Ge B G H σ ρ fp)(ha:a∈fp i)(hv:σ[i]?=some (some v))(h:Ow K G (bo H a ob) (μ.getD i 0) d v S)(nd:S.Nodup)(hS:∀b∈S,G b=none∧B b=none)(hd:∀j,j≠i→∀b∈S,b∉fp j):Rw K μ Ge B G (bo H a ob) σ (ρ.set i (some d)) (fun j=>if j=i then S else fp j):=by
 have nG:∀{b:Addr} {o:HO},G b=some o→b≠a:=fun e z=>by rw[z,R.gf i a ha]at e;cases e
 have nB:∀{b:Addr} {o:HO},B b=some o→b≠a:=fun e z=>by rw[z,R.ob i a ha]at e;cases e
 have nj:∀{j:Nat} {b:Addr},j≠i→b∈fp j→b≠a:=fun U hb z=>by subst z;exact U (R.dj _ i _ hb ha)
 refine⟨fun b o e=>by rw[ak (nG e)];exact R.gh b o e,R.eg,fun b o e=>by rw[ak (nB e)];exact R.bh b o e,R.nw,fun j b e=>?_,fun j b e=>?_,fun j b e=>?_,fun j=>?_,fun j k b ej ek=>?_,fun j e q=>?_⟩
 ·split at e
  ·exact(hS b e).1
  ·exact R.gf j b e
 ·split at e
  ·exact(hS b e).2
  ·exact R.ob j b e
 ·by_cases U:j=i
  ·simp only[if_pos U]at e ⊢;exact h.cell b e
  ·simp only[if_neg U]at e ⊢;rw[ak (nj U e)];exact R.oc j b e
 ·split
  ·exact nd
  ·exact R.nd j
 ·skip
  split at ej
  ·rename_i z1;split at ek
   ·rename_i z2;rw[z1,z2]
   ·rename_i z2;exact absurd ek (hd k z2 b ej)
  ·rename_i z1;split at ek
   ·rename_i z2;exact absurd ej (hd j z1 b ek)
   ·exact R.dj j k b ej ek
 ·by_cases U:j=i
  ·subst U;rw[List.getElem?_set_self']at q;cases z:ρ[j]? with
   |none=>rw[z]at q;cases q
   |some o=>
    rw[z]at q;cases q;rw[if_pos rfl];exact⟨v,hv,h⟩
  ·rw[getElem?_set_ne (Ne.symm U)]at q;rw[if_neg U];obtain⟨w,hw,hh⟩:=R.sl j e q;exact⟨w,hw,hh.mono (.refl _) fun b hb o eo=>by rw[ak (nj U hb)];exact eo⟩
end
noncomputable def New (H G:Hp)(S:List Addr):Prop:=S.Nodup∧∀a∈S,H a=none∧G a=none
theorem New.nil {H G:Hp}:New H G []:=⟨nodup_nil,fun a h=>by cases h⟩
inductive NQ (X:Cx)(pins:List (Addr×Obj))(σ:St)(G H:Hp)(n:Nat)(o:Res D)(u:Value)(s':Shared):Prop
 |mk (d:D) (e:o= .ok d) (v:V) (G' H':Hp) (S:List Addr) (i:Inv X pins σ H' s') (r:RelV v u) (x:Ext G H G' H') (w:Ow X.K G' H' n d v S) (nw:New H G' S)
inductive ZQ (X:Cx)(pins:List (Addr×Obj))(σ:St)(μ:List Nat)(Ge B G H:Hp)(ρ:DS)(fp:Nat→List Addr)(n:Nat)(o:Res D)(u:Value)(s':Shared):Prop
 |mk (d:D) (e:o= .ok d) (v:V) (G' H':Hp) (S:List Addr) (i:Inv X pins σ H' s') (r:RelV v u) (R:Rw X.K μ Ge B G' H' σ ρ fp) (sg:Same G G') (sh:Same H H') (w:Ow X.K G' H' n d v S) (nw:New H G' S)
noncomputable def PN (X:Cx)(E:XK)(n:Nat)(e:Expr)(f:DS→Res D):Prop:=
 ∀(pins:List (Addr×Obj)) (s:Shared) (σ:St) (G H:Hp) (ρ:DS),Inv X pins σ H s→Same G H→Ro X.K G σ ρ→OkR E H (f ρ)→
  wpAny (model X.prog X.w) X.A (eval e X.env) (NQ X pins σ G H n (f ρ)) X.xe s
theorem Ext.freeze {K:W.Frag}{G H G' H':Hp}{n:Nat}{d:D}{v:V}{S:List Addr}(hs:Same G H)(x:Ext G H G' H')(w:New H G' S)(h:Ow K G' H' n d v S):∃G2,Ext G H G2 H'∧Same G' G2∧Rep K G2 d v:=by
 have dec:∀b,Decidable (b∈S):=fun b=>Classical.propDecidable _;refine(gW (fun b=>if b∈S then H' b else G' b) ⟨x.hh,fun b o e=>?_,fun b o e=>?_,fun b o e=>?_⟩ (fun b o e=>?_) (h.rep (fun b o e=>?_) fun a ha o e=>?_))
 ·by_cases q:b∈S
  ·have:=(w.2 b q).1;rw[hs b o e]at this;cases this
  ·show (if b∈S then H' b else G' b)=some o
   rw[if_neg q];exact x.gg b o e
 ·have e:(if b∈S then H' b else G' b)=some o:=e
  by_cases q:b∈S
  ·rw[if_pos q]at e;exact e
  ·rw[if_neg q]at e;exact x.gh b o e
 ·have e:(if b∈S then H' b else G' b)=some o:=e
  by_cases q:b∈S
  ·exact .inr (.inl (w.2 b q).1)
  ·rw[if_neg q]at e;exact x.nw b o e
 ·show (if b∈S then H' b else G' b)=some o
  by_cases q:b∈S
  ·rw[(w.2 b q).2]at e;cases e
  ·rw[if_neg q];exact e
 ·show (if b∈S then H' b else G' b)=some o
  by_cases q:b∈S
  ·rw[(w.2 b q).2]at e;cases e
  ·rw[if_neg q];exact e
 ·show (if a∈S then H' a else G' a)=some o
  rw[if_pos ha];exact e
section
variable{X:Cx}{E:XK}{μ:List Nat}
theorem PN.of {e:Expr}{f:DS→Res D}(h:PD X E e f):PN X E 0 e f:=fun pins s σ G H ρ I hs hr ho=>
 aO (h pins s σ G H ρ I hs hr ho) fun u s' hZ148=>(by obtain⟨d,e,v,G',H',I',rv,x,rp⟩:=hZ148;exact⟨d,e,v,G',H',[],I',rv,x,⟨rfl,rp⟩,.nil⟩)
theorem PN.pd {n:Nat}{e:Expr}{f:DS→Res D}(h:PN X E n e f):PD X E e f:=fun pins s σ G H ρ I hs hr ho=>
 aO (h pins s σ G H ρ I hs hr ho) fun u s' hZ149=>by
  refine cps fun PP kP=>?_;obtain⟨d,e,v,G',H',S,I',rv,x,o,w⟩:=hZ149;refine cj (x.freeze hs w o) fun G2 x2 _ rp=>?_;refine kP ?_;clear kP PP;exact⟨d,e,v,G2,H',I',rv,x2,rp⟩
noncomputable def PZ (X:Cx)(E:XK)(μ:List Nat)(n:Nat)(e:Expr)(f:DS→Res D):Prop:=
 ∀(pins:List (Addr×Obj)) (s:Shared) (σ:St) (Ge B G H:Hp) (ρ:DS) (fp:Nat→List Addr),Inv X pins σ H s→Rw X.K μ Ge B G H σ ρ fp→OkR E B (f ρ)→
  wpAny (model X.prog X.w) X.A (eval e X.env) (ZQ X pins σ μ Ge B G H ρ fp n (f ρ)) X.xe s
inductive tZ (K:W.Frag)(E:XK)(μ:List Nat)(n:Nat)(f:DS→Res D)(σ:St)(H:Hp)(Q:VK):Prop
 |mk (Ge B G:Hp) (ρ:DS) (fp:Nat→List Addr) (R:Rw K μ Ge B G H σ ρ fp) (o:OkR E B (f ρ)) (k:∀d,f ρ= .ok d→∀v G' H' S,Rw K μ Ge B G' H' σ ρ fp→Same G G'→Same H H'→Ow K G' H' n d v S→New H G' S→Q v H')
theorem ua {n:Nat}{e:Expr}{f:DS→Res D}(h:PZ X E μ n e f):PE X e (tZ X.K E μ n f):=by
 intro pins s σ H Q I hZ14;obtain⟨Ge,B,G,ρ,fp,R,ho,k⟩:=hZ14;exact aO (h pins s σ Ge B G H ρ fp I R ho) fun u s' hZ150=>(by obtain⟨d,e,v,G',H',S,I',rv,R',sg,sh,o,w⟩:=hZ150;exact⟨v,H',I',rv,k d e v G' H' S R' sg sh o w⟩)
noncomputable def oQ (n:Nat)(f:DS→Res D):DS→Res D:=fun ρ=>(f ρ).bind fun d=>if cC n d=true then .ok d else .bad
theorem cN {n:Nat}{e:Expr}{f:DS→Res D}(h:PN X E n e f):PZ X E μ n e (oQ n f):=by
 intro pins s σ Ge B G H ρ fp I R ho;refine aO (h pins s σ (pX fp G H) H ρ I R.vh R.ro (ho.fst.le R.bh)) fun u s' hZ151=>?_;obtain⟨d,e,v,G',H',S,I',rv,x,o,w⟩:=hZ151;have k:=ho.snd e (Same.refl B);by_cases hl:cC n d=true
 ·exact⟨d,al e (if_pos hl),v,ql (rB fp) G',H',S,I',rv,R.grow x,R.gg x,x.hh,o.hide (R.cells x) hl,w.1,fun a ha=>⟨(w.2 a ha).1,by
   cases q:ql (rB fp) G' a with
   |none=>rfl
   |some o=>have:=(lu q).2;rw[(w.2 a ha).2]at this;cases this⟩⟩
 ·rw[if_neg hl]at k;exact k.elim
noncomputable def dQ (μ:List Nat)(f:DS→Res D):DS→Res D:=fun ρ=>f (gZ μ ρ)
theorem aF {n:Nat}{e:Expr}{f:DS→Res D}(h:PN X E n e f):PZ X E μ n e (dQ μ f):=by
 intro pins s σ Ge B G H ρ fp I R ho;exact aO (h pins s σ G H (gZ μ ρ) I R.gh R.rof (ho.le R.bh)) fun u s' hZ152=>(by obtain⟨d,e,v,G',H',S,I',rv,x,o,w⟩:=hZ152;exact⟨d,e,v,G',H',S,I',rv,R.growF x,x.gg,x.hh,o,w⟩)
inductive SMn (X:Cx)(μ:List Nat)(Ge B G:Hp)(pins:List (Addr×Obj))(P:DS→Prop)(s':Shared):Prop
 |mk (ρ':DS) (σ':St) (G' H':Hp) (fp':Nat→List Addr) (e:P ρ') (i:Inv X pins σ' H' s') (R:Rw X.K μ Ge B G' H' σ' ρ' fp') (sg:Same G G')
inductive SMr (X:Cx)(r:Nat)(Ge B:Hp)(pins:List (Addr×Obj))(o:Out)(u:Value)(s':Shared):Prop
 |mk (d:D) (v:V) (σ':St) (G' H':Hp) (S:List Addr) (e:o= .rt d) (i:Inv X pins σ' H' s') (rv:RelV v u) (x:Ext Ge B G' H') (w:Ow X.K G' H' r d v S) (nw:New B G' S)
noncomputable def SM (X:Cx)(μ:List Nat)(r:Nat)(Ge B G:Hp)(pins:List (Addr×Obj))(o:Out)(fl:Flow)(s':Shared):Prop:=
 match fl with
 |.next=>SMn X μ Ge B G pins (o= .nx ·) s'
 |.brk=>SMn X μ Ge B G pins (o= .bk ·) s'
 |.cont=>SMn X μ Ge B G pins (o= .ct ·) s'
 |.ret u=>SMr X r Ge B pins o u s'
noncomputable def mX (X:Cx)(E:XK)(μ:List Nat)(r:Nat)(st:Stmt)(F:DS→Out):Prop:=
 ∀(pins:List (Addr×Obj)) (s:Shared) (σ:St) (Ge B G H:Hp) (ρ:DS) (fp:Nat→List Addr),Inv X pins σ H s→Rw X.K μ Ge B G H σ ρ fp→OkO E B (F ρ)→
  wpAny (model X.prog X.w) X.A (exec st X.env) (SM X μ r Ge B G pins (F ρ)) X.xe s
noncomputable def uK (X:Cx)(E:XK)(μ:List Nat)(r:Nat)(sts:List Stmt)(F:DS→Out):Prop:=
 ∀(pins:List (Addr×Obj)) (s:Shared) (σ:St) (Ge B G H:Hp) (ρ:DS) (fp:Nat→List Addr),Inv X pins σ H s→Rw X.K μ Ge B G H σ ρ fp→OkO E B (F ρ)→
  wpAny (model X.prog X.w) X.A (execs sts X.env) (SM X μ r Ge B G pins (F ρ)) X.xe s
variable{r:Nat}
theorem SM.le {Ge B G G1:Hp}{pins:List (Addr×Obj)}{o:Out}{fl:Flow}{s':Shared}(s:Same G G1)(h:SM X μ r Ge B G1 pins o fl s'):SM X μ r Ge B G pins o fl s':=by
 cases fl with
 |next=>obtain⟨W,z,G',H',V,e,I,R,t⟩:=h;exact⟨W,z,G',H',V,e,I,R,s.trans t⟩
 |brk=>obtain⟨W,z,G',H',V,e,I,R,t⟩:=h;exact⟨W,z,G',H',V,e,I,R,s.trans t⟩
 |cont=>obtain⟨W,z,G',H',V,e,I,R,t⟩:=h;exact⟨W,z,G',H',V,e,I,R,s.trans t⟩
 |ret u=>exact h
theorem a_:uK X E μ r [] (fun ρ=>.nx ρ):=fun _ _ σ Ge B G H ρ fp I R _=>wpAny_execs_nil ⟨ρ,σ,G,H,fp,rfl,I,R,.refl _⟩
theorem af {st:Stmt}{rest:List Stmt}{F R:DS→Out}(h1:mX X E μ r st F)(h2:uK X E μ r rest R):uK X E μ r (st::rest) (ax F R):=by
 intro pins s σ Ge B G H ρ fp I W ho;refine wpAny_execs_cons (aO (h1 pins s σ Ge B G H ρ fp I W ho.fst) fun fl s1 q=>?_);cases fl with
 |next=>
  obtain⟨Y,z,G',H',V,e,I',W',sg⟩:=q;refine aO (h2 pins s1 z Ge B G' H' Y V I' W' (ho.snd e (.refl _))) fun fl2 s2 q2=>?_;have e2:ax F R ρ=R Y:=by unfold ax;rw[e];rfl
  rw[e2];exact q2.le sg
 |brk=>obtain⟨Y,z,G',H',V,e,q,q1,q2⟩:=q;exact⟨Y,z,G',H',V,by unfold ax;rw[e];rfl,q,q1,q2⟩
 |cont=>obtain⟨Y,z,G',H',V,e,q,q1,q2⟩:=q;exact⟨Y,z,G',H',V,by unfold ax;rw[e];rfl,q,q1,q2⟩
 |ret u=>obtain⟨d,v,z,G',H',S,e,q,q1,q2,q3,q4⟩:=q;exact⟨d,v,z,G',H',S,by unfold ax;rw[e];rfl,q,q1,q2,q3,q4⟩
theorem ai {st:Stmt}{F:DS→Out}(h1:mX X E μ r st F):uK X E μ r [st] F:=by
 intro pins s σ Ge B G H ρ fp I W ho;refine wpAny_execs_cons (aO (h1 pins s σ Ge B G H ρ fp I W ho) fun fl s1 q=>?_);cases fl with
 |next=>exact wpAny_execs_nil q
 |brk=>exact q
 |cont=>exact q
 |ret u=>exact q
theorem Rw.apart {K:W.Frag}{Ge B G H:Hp}{σ:St}{ρ:DS}{fp:Nat→List Addr}{S:List Addr}{G':Hp}(R:Rw K μ Ge B G H σ ρ fp)(w:New H G' S):∀j,∀a∈S,a∉fp j:=fun j a ha hj=>by
 obtain⟨o,h,_⟩:=R.oc j a hj;rw[(w.2 a ha).1]at h;cases h
theorem az {i:Nat}{x:Str}{e:Expr}{pos' pos:Pos}{f:DS→Res D}(hN:X.N.Nodup)(hi:X.N[i]?=some x)(hx:Bs X.env.scope x)(h:PZ X E μ (μ.getD i 0) e f)(hf:X.fn x=true∨X.env.scope.names.lookup x=some .local:=by first|exact .inl rfl|exact .inr rfl)
  (hsw:swapsWith e (some (.Name x pos')) pos.line X.env=pure false:=by rfl):mX X E μ r (.Assign [.Name x pos'] e pos) (aT i f):=by
 intro pins s σ Ge B G H ρ fp I R ho;have hiσ:i<σ.length:=by rw[I.len];exact(cU hi).1
 refine aO (Gx (pos:=pos) (pos':=pos') hN hi hx (ua h) hsw hf pins s σ H {nx:=fun σ' H'=>∃d v G' S,f ρ= .ok d∧σ'=σ.set i (some v)∧Rw X.K μ Ge B G' H' σ ρ fp∧Same G G'∧Ow X.K G' H' (μ.getD i 0) d v S∧New H G' S,bk:=fun _ _=>False,ct:=fun _ _=>False,rt:=fun _ _=>False} I ⟨Ge,B,G,ρ,fp,R,ho.res,fun d e v G' H' S R' sg sh o w=>(Cz d v G' S e rfl R' sg o w)⟩) fun fl s1 q=>?_;cases fl with
 |next=>
  obtain⟨σ',H',I',d,v,G',S,e,e2,R',sg,o,w⟩:=q;subst e2;exact⟨_,_,G',H',_,bM e,I',R'.put hiσ o w.1 (fun a ha=>⟨(w.2 a ha).2,R.bh.free (w.2 a ha).1⟩) (fun j _=>R.apart w j),sg⟩
 |brk=>obtain⟨_,_,_,q⟩:=q;exact q.elim
 |cont=>obtain⟨_,_,_,q⟩:=q;exact q.elim
 |ret u=>obtain⟨_,_,_,_,_,q⟩:=q;exact q.elim
theorem rY {e:Expr}{pos:Pos}{f:DS→Res D}(h:PD X E e f)(hs:swapsWith e none pos.line X.env=pure false:=by rfl):mX X E μ r (.Expr e pos) (tB f):=by
 intro pins s σ Ge B G H ρ fp I R ho;refine aO (gr (fS h) hs pins s σ H {nx:=fun σ' H'=>∃d G',f ρ= .ok d∧σ'=σ∧Ext (pX fp G H) H G' H',bk:=fun _ _=>False,ct:=fun _ _=>False,rt:=fun _ _=>False} I ⟨pX fp G H,ρ,R.vh,R.ro,ho.res.le R.bh,fun d e v G' H' x rp=>(dR d G' e rfl x)⟩) fun fl s1 q=>?_;cases fl with
 |next=>
  obtain⟨σ',H',I',d,G',e,e2,x⟩:=q;subst e2;exact⟨ρ,_,_,H',fp,bM e,I',R.grow x,R.gg x⟩
 |brk=>obtain⟨_,_,_,q⟩:=q;exact q.elim
 |cont=>obtain⟨_,_,_,q⟩:=q;exact q.elim
 |ret u=>obtain⟨_,_,_,_,_,q⟩:=q;exact q.elim
theorem bJ {c:Expr}{a b:List Stmt}{pos:Pos}{fc:DS→Res Bool}{Fa Fb:DS→Out}(hc:uG X E c fc)(ha:uK X E μ r a Fa)(hb:uK X E μ r b Fb):mX X E μ r (.If c a b pos) (i3 fc Fa Fb):=by
 intro o s σ Ge B G H ρ fp I R ho;refine wpAny_If (aO (hc o s σ (pX fp G H) H ρ I R.vh R.ro (ho.res.le R.bh)) fun k s1 hZ153=>?_);obtain⟨e,G1,H1,I1,x1⟩:=hZ153;have kk:=ho.res2 e (Same.refl B);have e0:i3 fc Fa Fb ρ=if k=true then Fa ρ else Fb ρ:=bM e
 rw[e0];cases k with
 |true=>rw[if_pos rfl]at kk ⊢;exact aO (ha o s1 σ Ge B _ H1 ρ fp I1 (R.grow x1) kk) fun _ _ q=>q.le (R.gg x1)
 |false=>rw[if_neg Bool.false_ne_true]at kk ⊢;exact aO (hb o s1 σ Ge B _ H1 ρ fp I1 (R.grow x1) kk) fun _ _ q=>q.le (R.gg x1)
theorem Rw.ext {K:W.Frag}{Ge B G H:Hp}{σ:St}{ρ:DS}{fp:Nat→List Addr}(R:Rw K μ Ge B G H σ ρ fp):Ext Ge B G H:=⟨R.bh,R.eg,R.gh,R.nw⟩
theorem aM {e:Expr}{pos:Pos}{f:DS→Res D}(h:PZ X E μ r e f):mX X E μ r (.Return (some e) pos) (bw f):=by
 intro pins s σ Ge B G H ρ fp I R ho;refine aO (vG (pos:=pos) (ua h) pins s σ H {nx:=fun _ _=>False,bk:=fun _ _=>False,ct:=fun _ _=>False,rt:=fun v H'=>∃d G' S,f ρ= .ok d∧Rw X.K μ Ge B G' H' σ ρ fp∧Same G G'∧Ow X.K G' H' r d v S∧New H G' S} I ⟨Ge,B,G,ρ,fp,R,ho.res,fun d e v G' H' S R' sg sh o w=>(nC d G' S e R' sg o w)⟩) fun fl s1 q=>?_;cases fl with
 |next=>obtain⟨_,_,_,q⟩:=q;exact q.elim
 |brk=>obtain⟨_,_,_,q⟩:=q;exact q.elim
 |cont=>obtain⟨_,_,_,q⟩:=q;exact q.elim
 |ret u=>
  obtain⟨v,σ',H',I',rv,d,G',S,e,R',sg,o,w⟩:=q;exact⟨d,v,σ',G',H',S,bM e,I',rv,R'.ext,o,w.1,fun a ha=>⟨R.bh.free (w.2 a ha).1,(w.2 a ha).2⟩⟩
theorem jW {i:Nat}{x:Str}{px pos:Pos}(hm:μ.getD i 0=r)(hN:X.N[i]?=some x)(hv:yP X.env.scope x)(hd:(x==("__debug__" :Str))=false:=by decide)(hcd:(x==("__classdict__" :Str))=false:=by decide):mX X E μ r (.Return (some (.Name x px)) pos) (bw (ab i)):=by
 intro pins s σ Ge B G H ρ fp I R ho;have hslot:∃d,ρ[i]?=some (some d)∧ab i ρ= .ok d:=by
  have h:=ho.res;unfold ab at h;split at h
  ·rename_i l q;exact⟨l,q,by unfold ab;rw[q]⟩
  ·exact h.elim
 refine cps fun PP kP=>?_;obtain⟨d,hr,er⟩:=hslot;obtain⟨v,h1,o⟩:=R.sl i _ hr;refine kP ?_;clear kP PP;rw[hm]at o;refine aO (vG (pos:=pos) (iQ (pos:=px) hN hv hd hcd) pins s σ H {nx:=fun _ _=>False,bk:=fun _ _=>False,ct:=fun _ _=>False,rt:=fun v' H'=>v'=v∧H'=H} I (gW _ h1 rfl rfl)) fun fl s1 q=>?_;cases fl with
 |next=>obtain⟨_,_,_,q⟩:=q;exact q.elim
 |brk=>obtain⟨_,_,_,q⟩:=q;exact q.elim
 |cont=>obtain⟨_,_,_,q⟩:=q;exact q.elim
 |ret u=>
  obtain⟨v',σ',H',I',rv,e2,e3⟩:=q;subst e2 e3;exact⟨d,v',σ',G,H',fp i,bM er,I',rv,R.ext,o,R.nd i,fun a ha=>⟨R.ob i a ha,R.gf i a ha⟩⟩
noncomputable def cy (fc:DS→Res Bool)(F:DS→Out):Nat→DS→Out
 |0,_=>.bad
 |n+1,ρ=>(fc ρ).out fun b=>if b=true then (match F ρ with
  |.nx ρ'=>cy fc F n ρ'
  |.ct ρ'=>cy fc F n ρ'
  |.bk ρ'=>.nx ρ'
  |.rt d=>.rt d
  |.exc c=>.exc c
  |.bad=>.bad) else .nx ρ
theorem pb (n:Nat){c:Expr}{body:List Stmt}{pos:Pos}{fc:DS→Res Bool}{F:DS→Out}(hp:PassesOwn (model X.prog X.w) X.A X.env X.xe)(hc:uG X E c fc)(hb:uK X E μ r body F):mX X E μ r (.While c body [] pos) (cy fc F n):=by
 intro o s σ Ge B G H ρ fp I R ho;refine wpAny_While (codeAny_whileLoop (fun k s'=>∃σ' G' H' ρ' fp',Inv X o σ' H' s'∧Rw X.K μ Ge B G' H' σ' ρ' fp'∧Same G G'∧cy fc F n ρ=cy fc F k ρ') ?_ n ⟨σ,G,H,ρ,fp,I,R,.refl _,rfl⟩);intro k s1 hZ15;obtain⟨σ1,G1,H1,Y,fp1,I1,R1,sg1,e1⟩:=hZ15;rw[e1]at ho;cases k with
 |zero=>exact ho.elim
 |succ k=>
  have ho':OkO E B ((fc Y).out fun b=>if b=true then (match F Y with|.nx ρ'=>cy fc F k ρ'|.ct ρ'=>cy fc F k ρ'|.bk ρ'=>.nx ρ'|.rt d=>.rt d|.exc c=>.exc c|.bad=>.bad) else .nx Y):=ho
  have Z:cy fc F (k+1) Y=(fc Y).out fun b=>if b=true then (match F Y with|.nx ρ'=>cy fc F k ρ'|.ct ρ'=>cy fc F k ρ'|.bk ρ'=>.nx ρ'|.rt d=>.rt d|.exc c=>.exc c|.bad=>.bad) else .nx Y:=rfl
  refine wpAny_passesOwn hp (aO (hc o s1 σ1 (pX fp1 G1 H1) H1 Y I1 R1.vh R1.ro (ho'.res.le R1.bh)) fun b s2 hZ154=>?_);obtain⟨eb,G2,H2,I2,x2⟩:=hZ154;have kk:=ho'.res2 eb (Same.refl B);rw[bM eb]at Z;have R2:=R1.grow x2;have h:=sg1.trans (R1.gg x2);cases b with
  |true=>
   rw[if_pos rfl]at kk Z ⊢;have kF:OkO E B (F Y):=by
    cases q:F Y with
    |exc c=>rw[q]at kk;exact kk
    |bad=>rw[q]at kk;exact kk
    |_=>trivial
   refine wpAny_passesOwn hp (aO (hb o s2 σ1 Ge B _ H2 Y fp1 I2 R2 kF) fun f s3 q3=>?_);cases f with
   |next=>
    obtain⟨e,x,G3,H3,a,e3,I3,R3,g⟩:=q3;rw[e3]at Z;exact(HM k (lt_succ_self k) x G3 H3 e a I3 R3 (h.trans g) (e1.trans Z))
   |cont=>
    obtain⟨e,x,G3,H3,a,e3,I3,R3,g⟩:=q3;rw[e3]at Z;exact(HM k (lt_succ_self k) x G3 H3 e a I3 R3 (h.trans g) (e1.trans Z))
   |brk=>
    obtain⟨e,x,G3,H3,a,e3,I3,R3,g⟩:=q3;rw[e3]at Z;exact⟨e,x,G3,H3,a,e1.trans Z,I3,R3,h.trans g⟩
   |ret u=>
    obtain⟨d,v,x,G3,H3,S3,e3,q3,q4,q5,q6,q7⟩:=q3;rw[e3]at Z;exact⟨d,v,x,G3,H3,S3,e1.trans Z,q3,q4,q5,q6,q7⟩
  |false=>
   rw[if_neg Bool.false_ne_true]at kk Z ⊢;exact wpAny_execs_nil ⟨Y,σ1,_,H2,fp1,e1.trans Z,I2,R2,h⟩
end
inductive freshSp (K:W.Frag)(r:Nat)(m:List D→Res D)(vs:List V)(H:Hp)(Q:VK)(E:XK):Prop
 |mk (ds:List D) (G:Hp) (s:Same G H) (rl:RepL K G ds vs) (o:OkR E H (m ds)) (k:∀d,m ds= .ok d→∀v G' H' S,Ext G H G' H'→Ow K G' H' r d v S→New H G' S→Q v H')
section
variable{P:Program}{w:World}{K:W.Frag}{mg:Str→Option Value}{base:Heap}{r:Nat}
theorem Fun.fresh {x qual:Str}{st:Stmt}{f:Addr}{fd:FuncData}{N ps:List Str}{k:Nat}{m:List D→Res D}(F:Fun K x qual st f fd)(S:FnScope N ps (ag st))(μ:List Nat)(hμ:∀i,i<ps.length→μ.getD i 0=0)(len:∀ds,m ds≠ .bad→ds.length=ps.length)
  (hbody:∀(cdv:Value) (A:Around) (outer:List Env) (s:Shared) (H:Hp) (E:XK),Room k (A.deeper (envOfC qual (ag st) s.heap.objs.size f cdv))→
   ∃Fb,uK (yR P w K mg base N qual (ag st) f cdv A outer s H E) E μ r (cL st) Fb∧∀ds,m ds≠ .bad→fQ (Fb (aC N ds))=m ds):FnOk P w K mg base (CXF P w) (k+1) f fd ps (freshSp K r m):=by
 have nb:∀{E:XK} {H:Hp} {r:Res D},OkR E H r→r≠ .bad:=fun h z=>by rw[z]at h;exact h
 refine DP (F.ex) fun oc od kV doc pm an cdv ct osl hS127 lk hcd=>?_;subst hS127;refine zq lk hcd S (fun vs H Q E hZ155=>(by obtain⟨ds,G,_,rl,T,_⟩:=hZ155;rw[←rl.length];exact len ds (nb T))) fun A outer s H vs Q E hr hsp=>?_;refine cps fun PP kP=>?_;obtain⟨ds,G,hs,rl,T,k⟩:=hsp;obtain⟨Fb,hb,hm⟩:=hbody cdv A outer s H E hr;refine kP ?_;clear kP PP;have O:=hm ds (nb T);have hlen:=len ds (nb T);have hoO:OkO E H (Fb (aC N ds)):=by
  rw[←O]at T;cases q:Fb (aC N ds) with
  |exc c=>rw[q]at T;exact T
  |bad=>rw[q]at T;exact T
  |_=>trivial
 have zero:∀i d,(aC N ds)[i]?=some (some d)→μ.getD i 0=0:=fun i d e=>by
  refine hμ i ?_;unfold aC at e;by_cases hi:i<ds.length
  ·omega
  ·rw[List.getElem?_append_right (by simpa using hi),List.getElem?_replicate]at e;split at e <;> cases e
 have R0:Rw K μ G H G H (gu N vs) (aC N ds) (fun _=>[]):=by
  refine⟨hs,.refl _,.refl _,fun b o e=>.inl e,fun i a e=>(by cases e),fun i a e=>(by cases e),fun i a e=>(by cases e),fun i=>nodup_nil,fun i j a e=>(by cases e),fun i d e=>?_⟩;obtain⟨v,hv,rv⟩:=ui rl i d e;rw[zero i d e];exact(gW v hv rfl rv)
 refine⟨fun D σ H1=>(σ=gu N vs∧H1=H∧(D.nx=fun _ U=>Q .non U)∧D.rt=Q),?_,rfl,rfl,rfl,rfl⟩;intro pins s1 σ H1 D I hZ16;refine mE (hZ16) fun e1 e2 e3 e4=>?_;subst e1 e2;refine aO (hb pins s1 _ G H1 G H1 (aC N ds) _ I R0 hoO) fun fl s2 q=>?_;cases fl with
 |next=>
  obtain⟨ρ',B,G',U,fp',e,I',R,_⟩:=q;refine⟨B,U,I',?_⟩;rw[e3];have hn:m ds= .ok .non:=by rw[←O,e];rfl
  cases r with
  |zero=>exact k .non hn .non G' U [] R.ext ⟨rfl,rep_non.mpr rfl⟩ .nil
  |succ r=>exact k .non hn .non G' U [] R.ext ⟨by unfold L2.flat;rfl,rfl,rep_non.mpr rfl⟩ .nil
 |brk=>
  obtain⟨ρ',B,G',U,fp',e,_⟩:=q;rw[e]at O;exact absurd O.symm (nb T)
 |cont=>
  obtain⟨ρ',B,G',U,fp',e,_⟩:=q;rw[e]at O;exact absurd O.symm (nb T)
 |ret u=>
  obtain⟨d,v,B,G',U,S,e,I',rv,x,o,w⟩:=q;refine⟨v,B,U,I',rv,?_⟩;rw[e4];exact k d (by rw[←O,e];rfl) v G' U S x o w
end
inductive tZI (K:W.Frag)(E:XK)(μ:List Nat)(fi:DS→Res (List D))(σ:St)(H:Hp)(R:It→Hp→Prop):Prop
 |mk (Ge B G:Hp) (ρ:DS) (fp:Nat→List Addr) (w:Rw K μ Ge B G H σ ρ fp) (o:OkR E B (fi ρ)) (k:∀ds,fi ρ= .ok ds→∀J G' H',Rw K μ Ge B G' H' σ ρ fp→Same G G'→Bu K J ds G'→R J H')
noncomputable def GD (K:W.Frag)(μ:List Nat)(n:Nat)(g:TG)(asg:D→DS→Option DS):Prop:=
 ∀(Ge B G H:Hp) (σ:St) (ρ ρ':DS) (fp:Nat→List Addr) (v:V) (d:D),σ.length=n→Rw K μ Ge B G H σ ρ fp→Rep K G d v→asg d ρ=some ρ'→g v σ H fun σ' H'=>H'=H∧∃fp',Rw K μ Ge B G H σ' ρ' fp'
noncomputable def bR (j:Nat):D→DS→Option DS:=fun d ρ=>some (ρ.set j (some d))
noncomputable def eE (j k:Nat):D→DS→Option DS
 |.tup [a,b],ρ=>some ((ρ.set j (some a)).set k (some b))
 |_,_=>none
section
variable{X:Cx}{E:XK}{μ:List Nat}{r:Nat}{tg:Expr}
theorem Rw.set0 {K:W.Frag}{Ge B G H:Hp}{σ:St}{ρ:DS}{fp:Nat→List Addr}{i:Nat}{d:D}{v:V}(R:Rw K μ Ge B G H σ ρ fp)(hi:i<σ.length)(m:μ.getD i 0=0)(h:Rep K G d v):Rw K μ Ge B G H (σ.set i (some v)) (ρ.set i (some d)) (fun j=>if j=i then [] else fp j):=
 R.put hi (by rw[m];exact⟨rfl,h⟩) nodup_nil (fun a h=>by cases h) fun j _ a h=>by cases h
theorem Cs {K:W.Frag}{n j:Nat}(hj:j<n)(m:μ.getD j 0=0):GD K μ n (b9 j) (bR j):=by
 intro Ge B G H σ ρ ρ' fp v d hl R h e;cases e;exact⟨rfl,_,R.set0 (by rw[hl];exact hj) m h⟩
theorem Fs {K:W.Frag}{n j k:Nat}(hj:j<n)(hk:k<n)(m:μ.getD j 0=0)(m':μ.getD k 0=0):GD K μ n (xM K 2 (jq (b9 j) (jq (b9 k) xL))) (eE j k):=by
 intro Ge B G H σ ρ ρ' fp v d hl R h e;unfold eE at e;split at e
 ·rename_i a b;cases e;rw[rep_tup]at h;refine cps fun PP kP=>?_;obtain⟨p,xs,rfl,t,rl⟩:=h;obtain⟨x,q,rfl,rx,rl⟩:=rl.inv;obtain⟨y,q,rfl,ry,rl⟩:=rl.inv;refine kP ?_;clear kP PP;have:=rl.inv0;subst this;have R2:=(R.set0 (by rw[hl];exact hj) m rx).set0 (i:=k) (by rw[length_set,hl];exact hk) m' ry;exact⟨p,[x,y],rfl,(show TpS K H p _ from ⟨R.gh _ _ t.h⟩).sq,rfl,x,[y],rfl,y,[],rfl,rfl,rfl,_,R2⟩
 ·cases e
noncomputable def cm (asg:D→DS→Option DS)(F:DS→Out):List D→DS→Out
 | [],ρ=>.nx ρ
 |d::ds,ρ=>match asg d ρ with
  |none=>.bad
  |some ρ1=>match F ρ1 with
   |.nx ρ'=>cm asg F ds ρ'
   |.ct ρ'=>cm asg F ds ρ'
   |.bk ρ'=>.nx ρ'
   |.rt d=>.rt d
   |.exc c=>.exc c
   |.bad=>.bad
noncomputable def dP (fi:DS→Res (List D))(asg:D→DS→Option DS)(F:DS→Out):DS→Out:=fun ρ=>(fi ρ).out fun ds=>cm asg F ds ρ
theorem AA {pos:Pos}{iter:Expr}{body:List Stmt}{g:TG}{asg:D→DS→Option DS}{fi:DS→Res (List D)}{F:DS→Out}(hp:PassesOwn (model X.prog X.w) X.A X.env X.xe)(hc:X.calm=true)(hg:PG X tg g)(hgd:GD X.K μ X.N.length g asg)(hi:PI X tg iter (tZI X.K E μ fi))(hb:uK X E μ r body F)
  (hs:∀x,foldedSetIterable iter X.env x=pure x:=by intro _;rfl):mX X E μ r (.For tg iter body [] pos) (dP fi asg F):=by
 intro p s σ Ge B G H P fp I R ho;refine wpAny_For (aO (hi p s σ H _ I ⟨Ge,B,G,P,fp,R,ho.res,fun h e J G1 H1 R1 sg src=>(show (fun (J:It) (H1:Hp)=>∃ h G1,fi P= .ok h∧Rw X.K μ Ge B G1 H1 σ P fp∧Same G G1∧Bu X.K J h G1) J H1 from (l9 h G1 e R1 sg src))⟩) fun v s1 h1=>aO h1 fun itv s2 h2=> ?_) hs;obtain ⟨it,ip,tn,J,H2,e,I2,T,st2,f2,h,G2,eds,R2,sg2,src⟩:=h2;subst e;have kk:OkO E B (cm asg F h P):=ho.res2 eds (Same.refl B);have e0:dP fi asg F P=cm asg F h P:=bM eds;rw [e0];have z:∀ {H':Hp},(∀ b∈ip,H' b=none)→∀ b∈ip,i5 X p H' b:=fun hn b hb=>⟨hn b hb,(f2 b hb).2⟩;refine codeAny_forLoop_any (fun n s'=>∃ i σ' G' H' ρ' fp',n=h.length - i∧i≤h.length∧Inv X p σ' H' s'∧tn i s'.heap∧(∀ b∈ip,H' b=none)∧Rw X.K μ Ge B G' H' σ' ρ' fp'∧Same G2 G'∧cm asg F h P=cm asg F (h.drop i) ρ') ?_ h.length
  ⟨0,σ,G2,H2,P,fp,rfl,zero_le _,I2,st2,fun b hb=>(f2 b hb).1,R2,.refl _,rfl⟩
 intro n s3 hZ17;refine cps fun PP kP=>?_;obtain⟨i,M,G3,H3,a,fp3,rfl,hi3,I3,st3,fr3,R3,S,l⟩:=hZ17;obtain⟨sg,ss⟩:=src G3 H3 S R3.gh i;refine kP ?_;clear kP PP;by_cases W:i<h.length
 ·obtain⟨go,yl⟩:=sg h[i] (by simp[W]);have hdrop:h.drop i=h[i]::h.drop (i+1):=by rw[List.getElem_cons_drop]
  rw[hdrop]at l;refine wpAny_passesOwn hp (aO (T.item X rfl rfl rfl hc i p s3 M H3 X.xe I3 (z fr3) st3 go) fun r s4 hZ156=>?_);obtain⟨u,hr4,h4⟩:=hZ156;subst hr4;refine wpAny_passesOwn hp (aO h4 fun _ s5 hZ157=>?_);refine GR (hZ157) fun xv H5 I5 r5 y5 st5 fr5=>?_;obtain⟨G5,x5,rp5⟩:=yl xv H5 y5;have I5':=I5.pinned (z fr5) (T.obj _ _ st5);have R5:=R3.growF x5;have V:OkO E B (cm asg F (h[i]::h.drop (i+1)) a):=by rw[←l];exact kk
  rw[cm]at V;rw[cm]at l;cases qa:asg h[i] a with
  |none=>rw[qa]at V;exact V.elim
  |some ρ6=>
  rw[qa]at V l;dsimp only at V l;refine wpAny_passesOwn hp (aO (hg _ s5 M H5 xv u _ I5' r5 (hgd Ge B G5 H5 M a ρ6 fp3 xv _ I5.len R5 rp5 qa)) fun _ s6 hZ158=>?_);obtain⟨σ6,H6,I6,e6,fp6,R6⟩:=hZ158;subst e6;have kk6:OkO E B (F ρ6):=by
   cases q:F ρ6 with
   |exc c=>rw[q]at V;exact V
   |bad=>rw[q]at V;exact V
   |_=>trivial
  refine wpAny_passesOwn hp (aO (hb _ s6 _ Ge B G5 H6 _ _ I6 R6 kk6) fun f s7 q7=>?_);have C:∀{t:St} {Q O:Hp} {j:DS} {k:Nat→List Addr},Inv X (p ++ mr ip s5.heap) t O s7→Rw X.K μ Ge B Q O t j k→Same G5 Q→cm asg F h P=cm asg F (h.drop (i+1)) j→∃m,m<h.length-i∧∃i σ' G' H' ρ' fp',m=h.length-i∧i≤h.length∧Inv X p σ' H' s7∧tn i s7.heap∧(∀b∈ip,H' b=none)∧Rw X.K μ Ge B G' H' σ' ρ' fp'∧Same G2 G'∧cm asg F h P=cm asg F (h.drop i) ρ':=fun {t Q O j k} L R7 y U=>by
   refine⟨h.length-(i+1),Nat.sub_lt_sub_left W (lt_succ_self i),i+1,t,Q,O,j,k,rfl,W,L.unpinned,T.keep _ _ _ st5 fun b hb o e=>(L.pin (b,o) (mem_append_right _ (mem_append_right _ (dY hb e)))).1,fun b hb=>?_,R7,(S.trans x5.gg).trans y,U⟩;obtain⟨o,e,d⟩:=T.obj _ _ st5 b hb;exact(L.pin (b,o) (mem_append_right _ (mem_append_right _ (dY hb e)))).2.1
  cases f with
  |next=>obtain⟨j,t,Q,O,k,U,L,R7,y⟩:=q7;rw[U]at l;exact C L R7 y l
  |cont=>obtain⟨j,t,Q,O,k,U,L,R7,y⟩:=q7;rw[U]at l;exact C L R7 y l
  |brk=>
   obtain⟨j,t,Q,O,k,U,L,R7,y⟩:=q7;rw[U]at l;exact⟨j,t,Q,O,k,l,L.unpinned,R7,((sg2.trans S).trans x5.gg).trans y⟩
  |ret v=>
   obtain⟨d,v7,t,Q,O,S7,U,L,q7,q8,q9,q10⟩:=q7;rw[U]at l;exact⟨d,v7,t,Q,O,S7,l,L.unpinned,q7,q8,q9,q10⟩
 ·have hie:i=h.length:=Nat.le_antisymm hi3 (Nat.not_lt.mp W);subst hie;refine wpAny_passesOwn hp (aO (T.done X rfl rfl rfl hc h.length p s3 M H3 X.xe I3 (z fr3) st3 (ss (le_refl _))) fun r s4 hZ159=>?_);obtain⟨hr4,I4⟩:=hZ159;subst hr4;rw[List.drop_length]at l;exact wpAny_execs_nil ⟨a,M,G3,H3,fp3,l,I4,R3,sg2.trans S⟩
noncomputable def zy (μ:List Nat)(fi:DS→Res (List D)):DS→Res (List D):=fun ρ=>fi (gZ μ ρ)
theorem eZ {iter:Expr}{fi:DS→Res (List D)}(h:PI X tg iter (tDI X.K E fi)):PI X tg iter (tZI X.K E μ (zy μ fi)):=by
 intro pins s σ H Q I hZ18;obtain⟨Ge,B,G,ρ,fp,R,ho,k⟩:=hZ18;exact h pins s σ H Q I ⟨G,gZ μ ρ,R.gh,R.rof,ho.le R.bh,fun ds e J G' H' x src=>k ds e J G' H' (R.growF x) x.gg src⟩
theorem d9 {a:Expr}{p pos:Pos}{fs:DS→Res (List D)}(hg:Gl X "range")(hm:X.mg "range" =none)(ha:mW X E [a] fs)(hs:starEach [a] X.env=[(false,eval a X.env)]:=by rfl):PI X tg (.Call (.Name "range" p) [a] [] pos) (tZI X.K E μ (fun ρ=>(fs ρ).bind sd)):=by
 intro pins s σ H Q I hZ19;obtain⟨Ge,B,G,ρ,fp,R,ho,k⟩:=hZ19;refine qx hg hm (jC ha) hs pins s σ H Q I ⟨pX fp G H,ρ,R.vh,R.ro,ho.fst.le R.bh,fun ds e vs G1 H1 x1 p1=>?_⟩;have kk:=ho.snd e (Same.refl B);unfold sd at kk;split at kk
 ·rename_i j;refine bA (p1.inv) fun v q hS128 rv r0=>?_;subst hS128;rw[r0.inv0];rw[rep_int]at rv;subst rv;by_cases hj:cT j=true
  ·have hj':=hj;unfold cT at hj';rw[and_eq_true]at hj';exact(zH j rfl (of_decide_eq_true hj'.1) (of_decide_eq_true hj'.2) (k _ (al e (if_pos hj)) _ _ H1 (R.grow x1) (R.gg x1) (mB 0 j.toNat)))
  ·rw[if_neg hj]at kk;exact kk.elim
 ·exact kk.elim
theorem dJ {x:Str}{px pos:Pos}{iter:Expr}{body:List Stmt}{j:Nat}{fi:DS→Res (List D)}{F:DS→Out}(hp:PassesOwn (model X.prog X.w) X.A X.env X.xe)(hc:X.calm=true)(hN:X.N.Nodup)(hj:X.N[j]?=some x)(hx:Bs X.env.scope x)(hm:μ.getD j 0=0)(hi:PI X (.Name x px) iter (tZI X.K E μ fi))(hb:uK X E μ r body F)
  (hf:X.fn x=true∨X.env.scope.names.lookup x=some .local:=by first|exact .inl rfl|exact .inr rfl) (hs:∀x,foldedSetIterable iter X.env x=pure x:=by intro _;rfl):mX X E μ r (.For (.Name x px) iter body [] pos) (dP fi (bR j) F):=
 AA hp hc (eB hN hj hx hf) (Cs (cU hj).1 hm) hi hb hs
theorem dI {x y:Str}{px py pt pos:Pos}{kt:Nat}{iter:Expr}{body:List Stmt}{j k:Nat}{fi:DS→Res (List D)}{F:DS→Out}(hp:PassesOwn (model X.prog X.w) X.A X.env X.xe)(hc:X.calm=true)(hN:X.N.Nodup)(hj:X.N[j]?=some x)(hk:X.N[k]?=some y)(hx:Bs X.env.scope x)(hy:Bs X.env.scope y)(hm:μ.getD j 0=0)(hm':μ.getD k 0=0)(hi:PI X (.Tuple [.Name x px,.Name y py] kt pt) iter (tZI X.K E μ fi))(hb:uK X E μ r body F)
  (hf:X.fn x=true∨X.env.scope.names.lookup x=some .local:=by first|exact .inl rfl|exact .inr rfl) (hf':X.fn y=true∨X.env.scope.names.lookup y=some .local:=by first|exact .inl rfl|exact .inr rfl) (hs:∀x,foldedSetIterable iter X.env x=pure x:=by intro _;rfl):mX X E μ r (.For (.Tuple [.Name x px,.Name y py] kt pt) iter body [] pos) (dP fi (eE j k) F):=
 AA hp hc (vC hc (h_ (eB hN hj hx hf) (h_ (eB hN hk hy hf') rV))) (Fs (cU hj).1 (cU hk).1 hm hm') hi hb hs
end
section
variable{X:Cx}{pins:List (Addr×Obj)}{σ:St}{H:Hp}{s:Shared}{h':Heap}
theorem Inv.turnedL {t':Nat}{ch:List Addr}(I:Inv X pins σ H s)(hf:∀b∈ch,i5 X pins H b)(k:∀b o,b∉ch→s.heap.get? b=some o→h'.get? b=some o):Inv X pins σ H {s with heap:=h',toks:=t'}:=by
 have nit:∀b u,H b=some u→b∉ch:=fun b u e z=>by rw[(hf b z).1]at e;cases e
 refine I.step (g':=s.gens) (d':=s.drawn) (ch:=ch) (fun b hb=>?_) (fun b o _ _ hc e _=>k b o hc e) (fun b o _ _ hc e _=>⟨o.slots,k b o hc e⟩) (fun _ _ _ _ n=>n)
  (fun b o hc e=>⟨o,k b o hc e⟩) (fun _ _ e=>e) (fun _ _ _ e=>e) (fun b ps e=>⟨#[],by rw[e];simp⟩) (fun m hm=>?_) (fun b u e=>?_) I.bare
 ·refine pY (hf b hb) fun f0 f1 f2 f3 f4 f5=>?_;exact(m3 f3 f1 f4 f5)
 ·refine Bm (hm) fun o es ep ho r=>?_;exact(xV o es ep (k _ o (fun z=>(hf _ z).2.1 rfl) ho) r)
 ·refine(I.hok b u e).stay (fun c v hc q=>k c v ?_ q) (fun _ q=>q) fun _ _ q=>q
  rcases hc with z|z
  ·rw[z];exact nit b u e
  ·exact nit c _ z
theorem Inv.track {p:Addr}{o:HO}(I:Inv X pins σ H s)(hp:i5 X pins H p)(new:ObjOk X.prog X.w (bo H p o) s.heap p o):Inv X pins σ (bo H p o) s:=by
 have hn:=hp.1;have I':=I.step (g':=s.gens) (d':=s.drawn) (t':=s.toks) (h':=s.heap) (H':=bo H p o) (ch:=[p]) (fun b hb=>by
   have e:b=p:=by simpa using hb
   subst e;refine pY (hp) fun f0 f1 f2 f3 f4 f5=>?_;exact(m3 f3 f1 f4 f5)) (fun b o _ _ hc e _=>e) (fun b o _ _ hc e _=>⟨o.slots,e⟩) (fun b u hc e n=>by rw[ak (fun z=>hc (by simp[z]))];exact n)
  (fun b o hc e=>⟨o,e⟩) (fun b xs e=>by rw[ak (aB e hn)];exact e) (fun b o u e=>by rw[ak (aB e hn)];exact e) (fun b ps e=>⟨#[],by rw[ak (aB e hn),e];simp⟩) (fun m hm=>hm) (fun b u e=>by
   by_cases hb:b=p
   ·subst hb;rw[au]at e;cases e;exact new
   ·rw[ak hb]at e;exact(I.hok b u e).stay (fun c v _ q=>q) (fun c q=>by rw[ak (aB q hn)];exact q) fun c xs q=>by rw[ak (aB q hn)];exact q) I.bare
 exact I'
end
noncomputable def I_ (K:W.Frag)(a:Addr):It:=
 ⟨fun i H=>∃xs x,gC K H a xs∧xs[i]?=some x,fun i H x H'=>∃p y,H p=none∧x= .ref p∧H'=bo H p (.tup [.int i,y])∧∀xs,gC K H a xs→xs[i]?=some y,fun i H=>∃xs,gC K H a xs∧xs.length≤i⟩
theorem yE {P:Program}{w:World}{K:W.Frag}{elts:List Expr}{x1:Nat}{tp:Pos}(a e it:Addr)(hne:e≠it):Turn P w K (.Tuple elts x1 tp) (I_ K a) [e,it] e (fun i h=>(∃old,IsEnum h e it (i:Nat) old)∧h.IsListIter it a i) where
 mem:=by simp
 obj:=fun i h r b A=>by
  obtain⟨⟨old,B⟩,o,j,c,d⟩:=r
  rcases mem_cons.mp A with z|z
  ·subst z;exact⟨_,B,fun v z=>by cases z⟩
  ·have z:b=it:=by simpa using z
   subst z;exact⟨o,j,fun v z=>by rw[d]at z;cases z⟩
 keep:=fun i h h' ⟨⟨old,B⟩,r⟩ k=>⟨⟨old,k e (by simp) _ B⟩,r.at fun o e=>k it (by simp) o e⟩
 item:=by
  intro X hP hw hK hc i q s σ H E I hf r hg;subst hP hw hK;refine cps fun PP kP=>?_;obtain⟨⟨old,B⟩,n⟩:=r;refine mV (hg) fun xs x hq hx=>?_;refine cj (I.list hq) fun its rv p hz=>?_;obtain⟨u,hu,ru⟩:=rv.get hx;refine kP ?_;clear kP PP;have hlt:∀b∈[e,it],b≠s.heap.objs.size:=fun b A z=>by
   refine cj (n) fun o j c d=>?_
   rcases mem_cons.mp A with y|y
   ·rw[y]at z;exact absurd (Heap.lt_size B) (by rw[z];exact lt_irrefl _)
   ·have y:b=it:=by simpa using y
    rw[y]at z;exact absurd (Heap.lt_size j) (by rw[z];exact lt_irrefl _)
  have hfr:=I.hok.fresh (le_refl s.heap.objs.size);have hfp:i5 X q H s.heap.objs.size:=I.fpOk (le_refl _) hfr;refine wpAny_pyNext_enum_item B n p.isList (x:=u) (by simpa using hu) hne fun h1 he1 hit1 ht1 hz1 hk1=>⟨_,rfl,?_⟩;refine wpAny_letOwnedTupleGo_enum he1 fun h2 he2 m=>?_;have m:Heap.SameBut e h1 h2:=m;have I1:Inv X q σ H {s with heap:=h2,toks:=s.toks+1}:=I.turnedL (t':=s.toks+1) (ch:=[e,it]) hf fun b o A j=>by
   have b1:b≠e:=fun z=>A (by simp[z]);have b2:b≠it:=fun z=>A (by simp[z]);exact m.extBut b o b1 (hk1 b o b1 b2 j)
  have ht2:h2.get? s.heap.objs.size=some {cls:=.type "tuple",data:=.seq #[.int i s.toks,u]}:=m.extBut _ _ (Ne.symm (hlt e (by simp))) ht1;have I2:=Inv.track (o:=.tup [.int i,x]) I1 hfp (HN (by show 2≤sizeLine;decide) ([.int i s.toks,u]) (.cons ⟨_,rfl⟩ (.cons ru .nil)) _ ht2 rfl _ rfl);refine(xW (.ref s.heap.objs.size) _ I2 rfl (l9 _ x hfr rfl rfl (fun ys hy=>by rw[I.list_inj hy hq];exact hx)) ⟨⟨u,?_⟩,hit1.at fun o j=>m.extBut _ o (Ne.symm hne) j⟩ (fun b A=>?_))
  ·have:(((i+1:Nat):Int))=(i:Int)+1:=by push_cast;rfl
   rw[this];exact he2
  ·rw[ak (hlt b A)];exact(hf b A).1
 done:=by
  intro X hP hw hK hc i q s σ H E I hf r hg;subst hP hw hK;refine cps fun PP kP=>?_;obtain⟨⟨old,B⟩,n⟩:=r;obtain⟨xs,hq,hx⟩:=hg;refine cj (I.list hq) fun its rv p hz=>?_;refine kP ?_;clear kP PP;have hl:=rv.length;exact wpAny_pyNext_enum_end (I.ok.hd hc) B n p.isList (by simp;omega) fun h1 hk=>⟨rfl,I.turnedL (t':=s.toks) (ch:=[e,it]) hf fun b o A j=>hk b o (fun z=>A (by simp[z])) j⟩
 self:=fun _ _ _ _ _ r h=>by
  obtain⟨⟨old,B⟩,_⟩:=r;exact wpAny_pyIter_enum B h
theorem BE:bootBuiltins "enumerate" =some (.type "enumerate"):=by decide +kernel
theorem EG:bootBuiltins "zip" =some (.type "zip"):=by decide +kernel
section
variable{X:Cx}{E:XK}{elts:List Expr}{x1:Nat}{tp:Pos}
noncomputable def Hx (K:W.Frag)(ta:TA):TI:=fun σ H R=>ta σ H fun xs H1=>∃a,xs=[.ref a]∧(∃ys,gC K H1 a ys)∧R (I_ K a) H1
theorem De {a:Expr}{ta:TA}{p pos:Pos}(hg:Gl X "enumerate")(hm:X.mg "enumerate" =none)(ha:PA X [a] ta)(hs:starEach [a] X.env=[(false,eval a X.env)]:=by rfl):PI X (.Tuple elts x1 tp) (.Call (.Name "enumerate" p) [a] [] pos) (Hx X.K ta):=by
 intro pins s σ H R I h;refine Call_ (ju I hg hm BE (PyProof.Rows.callWith_type1 (aO (ha pos pins s σ H _ I h) fun us s1 hZ160=>?_) hs rfl));refine cps fun PP kP=>?_;obtain⟨vs,H1,I1,r1,q1⟩:=hZ160;refine cj (q1) fun l e hS129 q=>?_;obtain⟨ys,hq⟩:=hS129;refine kP ?_;clear kP PP;subst e;cases r1 with
 |cons r rr=>
  cases rr;cases r;refine cj (I1.list hq) fun its rv pp hz=>?_;refine call_enumerate_list pp.isList fun h2 he hit hz2 hk=>?_;refine wpAny_pyIter_enum (s:={s1 with heap:=h2}) he ⟨s1.heap.objs.size+1,[s1.heap.objs.size+1,s1.heap.objs.size],_,_,H1,rfl,I1.kept (t':=s1.toks) hk,yE l _ _ (Nat.succ_ne_self _),⟨⟨.none,he⟩,hit⟩,fun b hb=>?_,q⟩
  have hb':s1.heap.objs.size≤b:=by
   rcases mem_cons.mp hb with z|z
   ·rw[z];exact le_succ _
   ·have z:b=s1.heap.objs.size:=by simpa using z
    rw[z];exact le_refl _
  exact I1.fpOk hb' (I1.hok.fresh hb')
noncomputable def bU:Nat→List D→List D
 |_,[]=>[]
 |k,d::ds=>.tup [.int k,d]::bU (k+1) ds
theorem j8:∀(k:Nat) (l:List D) (i:Nat),(bU k l)[i]?=(l[i]?).map fun d=>.tup [.int ((k+i:Nat):Int),d]
 |_,[],i=>by unfold bU;simp
 |k,d::ds,0=>by unfold bU;simp
 |k,d::ds,i+1=>by
  unfold bU;rw[List.getElem?_cons_succ,List.getElem?_cons_succ,j8 (k+1) ds i];have:k+1+i=k+(i+1):=by omega
  rw[this]
theorem j9:∀(k:Nat) (l:List D),(bU k l).length=l.length
 |_,[]=>rfl
 |k,d::ds=>by unfold bU;rw[length_cons,length_cons,j9]
theorem AY {K:W.Frag}{G:Hp}{a:Addr}{xs:List V}{ds:List D}(sq:gC K G a xs)(rl:RepL K G ds xs):Bu K (I_ K a) (bU 0 ds) G:=by
 intro G2 H2 g1 g2 i;have sq2:gC K H2 a xs:=g2.seq (g1.seq sq);refine⟨fun d hd=>?_,fun hl=>⟨xs,sq2,by rw[j9,rl.length]at hl;exact hl⟩⟩;rw[j8]at hd;cases q:ds[i]? with
 |none=>rw[q]at hd;cases hd
 |some d0=>
  rw[q]at hd;cases hd;obtain⟨v,hv,rv⟩:=rl.get q;refine⟨(l8 xs v sq2 hv),fun y H' hZ161=>?_⟩;refine pG (hZ161) fun p z hp e1 e2 h=>?_;subst e1 e2;have q:=h xs sq2;rw[hv]at q;cases q;have x:=Ext.new g2 hp (.tup [.int i,v]);refine⟨_,x,rep_tup.mpr (dR p _ rfl (.of au) (.cons (rep_int.mpr (by rw[zero_add])) (.cons (rv.mono (g1.trans x.gg)) .nil)))⟩
noncomputable def s_:List D→Res (List D)
 | [.lst l]=>.ok (bU 0 l)
 |_=>.bad
theorem dH {a:Expr}{p pos:Pos}{fs:DS→Res (List D)}(hg:Gl X "enumerate")(hm:X.mg "enumerate" =none)(ha:mW X E [a] fs)(hs:starEach [a] X.env=[(false,eval a X.env)]:=by rfl):PI X (.Tuple elts x1 tp) (.Call (.Name "enumerate" p) [a] [] pos) (tDI X.K E (fun ρ=>(fs ρ).bind s_)):=by
 intro pins s σ H R I hZ20;obtain⟨G,ρ,hsm,hro,ho,k⟩:=hZ20;refine De hg hm (jC ha) hs pins s σ H R I ⟨G,ρ,hsm,hro,ho.fst,fun ds e vs G1 H1 x1 p1=>?_⟩;have kk:=ho.snd e x1.hh;unfold s_ at kk;split at kk
 ·rename_i l;refine bA (p1.inv) fun v r hS130 rv r0=>?_;subst hS130;rw[r0.inv0];rw[rep_lst]at rv;refine bA (rv) fun b xs hS131 sq rl=>?_;subst hS131;exact(gW b rfl ⟨xs,x1.gh.seq sq.sq⟩ (k _ (al e rfl) _ G1 H1 x1 (AY sq.sq rl)))
 ·exact kk.elim
end
noncomputable def Ja (a b:Addr):It:=
 ⟨fun i H=>∃xs ys x y,H a=some (.lst xs)∧H b=some (.lst ys)∧xs[i]?=some x∧ys[i]?=some y,fun i H x H'=>∃p y z,H p=none∧x= .ref p∧H'=bo H p (.tup [y,z])∧(∀xs,H a=some (.lst xs)→xs[i]?=some y)∧∀ys,H b=some (.lst ys)→ys[i]?=some z,
  fun i H=>∃xs ys,H a=some (.lst xs)∧H b=some (.lst ys)∧(xs.length≤i∨ys.length≤i)⟩
noncomputable def Hf (z TI TO i1 i2 a b:Addr)(i:Nat)(h:Heap):Prop:=IsZip h z TI TO .none∧IsPair h TI (.ref i1) (.ref i2)∧(∃x y,IsPair h TO x y)∧h.IsListIter i1 a i∧h.IsListIter i2 b i
structure ZApart (z TI TO i1 i2:Addr):Prop where
 TIz:TI≠z
 TOz:TO≠z
 i1z:i1≠z
 i2z:i2≠z
 TITO:TI≠TO
 TIi1:TI≠i1
 TIi2:TI≠i2
 TOi1:TO≠i1
 TOi2:TO≠i2
 i12:i1≠i2
theorem qI {X:Cx}{pins:List (Addr×Obj)}{H:Hp}{a b z TI TO i1 i2:Addr}{xs ys:List V}(D:ZApart z TI TO i1 i2)(hf:∀b∈[z,TI,TO,i1,i2],i5 X pins H b)(hq:H a=some (.lst xs))(hq':H b=some (.lst ys)):ZipApart z TI TO i1 i2 a b:=
 have na:∀{l:Addr} {zs:List V},H l=some (.lst zs)→∀c∈[z,TI,TO,i1,i2],l≠c:=fun hl c hc e=>by rw[e,(hf c hc).1]at hl;cases hl
 ⟨D.TIz,D.TOz,D.i1z,D.i2z,D.TITO,D.TIi1,D.TIi2,D.TOi1,D.TOi2,D.i12,na hq z (by simp),na hq TO (by simp),na hq i1 (by simp),na hq i2 (by simp),na hq' z (by simp),na hq' TO (by simp),na hq' i1 (by simp),na hq' i2 (by simp)⟩
theorem Be {P:Program}{w:World}{K:W.Frag}{elts:List Expr}{x1:Nat}{tp:Pos}(a b z TI TO i1 i2:Addr)(D:ZApart z TI TO i1 i2):Turn P w K (.Tuple elts x1 tp) (Ja a b) [z,TI,TO,i1,i2] z (Hf z TI TO i1 i2 a b) where
 mem:=by simp
 obj:=fun i h st c A=>by
  refine cps fun PP C=>?_;refine sC (st) fun hz q hS132 hS133 hS134=>?_;obtain⟨x,y,r⟩:=hS132;obtain⟨o1,e1,c1,d1⟩:=hS133;obtain⟨o2,e2,c2,d2⟩:=hS134;refine C ?_;clear C PP;simp only[mem_cons,not_mem_nil,or_false]at A
  rcases A with rfl|rfl|rfl|rfl|rfl
  ·exact⟨_,hz,fun v z=>by cases z⟩
  ·exact⟨_,q,fun v z=>by cases z⟩
  ·exact⟨_,r,fun v z=>by cases z⟩
  ·exact⟨o1,e1,fun v z=>by rw[d1]at z;cases z⟩
  ·exact⟨o2,e2,fun v z=>by rw[d2]at z;cases z⟩
 keep:=fun i h h' ⟨hz,q,⟨x,y,r⟩,h1,h2⟩ k=>⟨k z (by simp) _ hz,k TI (by simp) _ q,⟨x,y,k TO (by simp) _ r⟩,h1.at fun o e=>k i1 (by simp) o e,h2.at fun o e=>k i2 (by simp) o e⟩
 item:=by
  intro X hP hw hK A i F s σ H E I hf st hg;subst hP hw hK;refine cps fun PP C=>?_;refine sC (st) fun hz q hS135 h1 h2=>?_;obtain⟨u0,w0,r⟩:=hS135;refine pH (hg) fun xs ys x y hq B hx hy=>?_;refine cj (I.list (.inl (.inl hq))) fun its rv p _=>?_;refine cj (I.list (.inl (.inl B))) fun its' rv' p' _=>?_;obtain⟨u,hu,ru⟩:=rv.get hx;obtain⟨u',hu',ru'⟩:=rv'.get hy;refine C ?_;clear C PP;have DD:=qI D hf hq B;have hfr:=I.hok.fresh (le_refl s.heap.objs.size);have hfp:i5 X F H s.heap.objs.size:=I.fpOk (le_refl _) hfr;have lt:∀{c:Addr} {o:Obj},s.heap.get? c=some o→c≠s.heap.objs.size:=fun e=>ne_of_lt (Heap.lt_size e);have hlt:∀c∈[z,TI,TO,i1,i2],c≠s.heap.objs.size:=fun c A=>by
   refine cps fun PP C=>?_;obtain⟨o1,e1,_⟩:=h1;obtain⟨o2,e2,_⟩:=h2;refine C ?_;clear C PP;simp only[mem_cons,not_mem_nil,or_false]at A
   rcases A with rfl|rfl|rfl|rfl|rfl
   ·exact lt hz
   ·exact lt q
   ·exact lt r
   ·exact lt e1
   ·exact lt e2
  refine wpAny_pyNext_zip_item DD hz q r h1 h2 p.isList p'.isList (x:=u) (y:=u') (by simpa using hu) (by simpa using hu') fun h3 a1 a2 a3 a4 a5 a6 hk=>⟨_,rfl,?_⟩;refine wpAny_letOwnedTupleGo_zip a1 fun h4 hz4 t=>?_;have t:Heap.SameBut z h3 h4:=t;have I1:Inv X F σ H {s with heap:=h4,toks:=s.toks}:=I.turnedL (t':=s.toks) (ch:=[z,TI,TO,i1,i2]) hf fun c o A e1=>by
   have n:∀d∈[z,TI,TO,i1,i2],c≠d:=fun d hd z=>A (by rw[z];exact hd);exact t.extBut c o (n z (by simp)) (hk c o (n z (by simp)) (n TO (by simp)) (n i1 (by simp)) (n i2 (by simp)) e1)
  have ht2:h4.get? s.heap.objs.size=some {cls:=.type "tuple",data:=.seq #[u,u']}:=t.extBut _ _ (Ne.symm (hlt z (by simp))) a5;have I2:=Inv.track (o:=.tup [x,y]) I1 hfp (HN (by show 2≤sizeLine;decide) ([u,u']) (.cons ru (.cons ru' .nil)) _ ht2 rfl _ rfl);refine(xW (.ref s.heap.objs.size) _ I2 rfl (nC _ x y hfr rfl rfl (fun zs G=>by rw[hq]at G;cases G;exact hx) (fun zs G=>by rw[B]at G;cases G;exact hy)) (u9 hz4 (t.extBut _ _ D.TIz (hk _ _ D.TIz D.TITO D.TIi1 D.TIi2 q)) ⟨_,_,t.extBut _ _ D.TOz a2⟩ (a3.at fun o e=>t.extBut _ o D.i1z e) (a4.at fun o e=>t.extBut _ o D.i2z e)) (fun c A=>?_));rw[ak (hlt c A)];exact(hf c A).1
 done:=by
  intro X hP hw hK A i F s σ H E I hf st hg;subst hP hw hK;refine cps fun PP C=>?_;refine sC (st) fun hz q hS136 h1 h2=>?_;obtain⟨u0,w0,r⟩:=hS136;refine bA (hg) fun xs ys hq B hx=>?_;refine cj (I.list (.inl (.inl hq))) fun its rv p _=>?_;refine cj (I.list (.inl (.inl B))) fun its' rv' p' _=>?_;refine C ?_;clear C PP;have hl:=rv.length;have hl':=rv'.length;exact wpAny_pyNext_zip_end (I.ok.hd A) (qI D hf hq B) hz q r h1 h2 p.isList p'.isList (hx.imp (fun hx=>by simp;omega) (fun hx=>by simp;omega)) fun h3 hk=>⟨rfl,I.turnedL (t':=s.toks) (ch:=[z,TI,TO,i1,i2]) hf fun c o A e1=>by
   have n:∀d∈[z,TI,TO,i1,i2],c≠d:=fun d hd z=>A (by rw[z];exact hd);exact hk c o (n z (by simp)) (n TO (by simp)) (n i1 (by simp)) (n i2 (by simp)) e1⟩
 self:=fun _ _ _ _ _ st h=>wpAny_pyIter_zip st.1 h
section
variable{X:Cx}{E:XK}{elts:List Expr}{x1:Nat}{tp:Pos}
noncomputable def Jn (ta:TA):TI:=fun σ H R=>ta σ H fun xs H1=>∃a b,xs=[.ref a,.ref b]∧(∃ys,H1 a=some (.lst ys))∧(∃ys,H1 b=some (.lst ys))∧R (Ja a b) H1
theorem Gp {a b:Expr}{ta:TA}{p pos:Pos}(hg:Gl X "zip")(hm:X.mg "zip" =none)(ha:PA X [a,b] ta)(hs:starEach [a,b] X.env=[(false,eval a X.env),(false,eval b X.env)]:=by rfl)(hs2:starEach [b] X.env=[(false,eval b X.env)]:=by rfl):PI X (.Tuple elts x1 tp) (.Call (.Name "zip" p) [a,b] [] pos) (Jn ta):=by
 intro pins s σ H R I h;refine Call_ (ju I hg hm EG (PyProof.Rows.callWith_type1 (aO (ha pos pins s σ H _ I h) fun us u hZ162=>?_) (by rw[hs,hs2]) (by rw[hs2];rfl)));refine cps fun PP kP=>?_;obtain⟨vs,H1,I1,r1,q1⟩:=hZ162;refine pG (q1) fun l m e hS137 hS138 q=>?_;obtain⟨ys,hq⟩:=hS137;obtain⟨zs,hq'⟩:=hS138;refine kP ?_;clear kP PP;subst e;cases r1 with
 |cons r rr=>
  cases rr with
  |cons r' rr=>
  cases rr;cases r;cases r';refine cj (I1.list (.inl (.inl hq))) fun its rv pp hz=>?_;refine cj (I1.list (.inl (.inl hq'))) fun its' rv' pp' hz'=>?_;refine call_zip_2 pp.isList pp'.isList fun h2 b1 b2 b3 b4 b5 b6 hk=>?_;have D:ZApart (u.heap.objs.size+4) (u.heap.objs.size+2) (u.heap.objs.size+3) u.heap.objs.size (u.heap.objs.size+1):=by
   generalize u.heap.objs.size=n;exact⟨by show (n+2:Nat)≠n+4;omega,by show (n+3:Nat)≠n+4;omega,by show (n:Nat)≠n+4;omega,by show (n+1:Nat)≠n+4;omega,by show (n+2:Nat)≠n+3;omega,by show (n+2:Nat)≠n;omega,by show (n+2:Nat)≠n+1;omega,by show (n+3:Nat)≠n;omega,by show (n+3:Nat)≠n+1;omega,by show (n:Nat)≠n+1;omega⟩
  refine wpAny_pyIter_zip (s:={u with heap:=h2}) b1 ⟨u.heap.objs.size+4,[u.heap.objs.size+4,u.heap.objs.size+2,u.heap.objs.size+3,u.heap.objs.size,u.heap.objs.size+1],_,_,H1,rfl,I1.kept (t':=u.toks) hk,Be l m _ _ _ _ _ D,(u9 b1 b2 ⟨_,_,b3⟩ b4 b5),fun c hc=>?_,q⟩
  have hb':u.heap.objs.size≤c:=by
   simp only[mem_cons,not_mem_nil,or_false]at hc
   rcases hc with rfl|rfl|rfl|rfl|rfl
   ·exact le_add_right _ _
   ·exact le_add_right _ _
   ·exact le_add_right _ _
   ·exact le_refl _
   ·exact le_add_right _ _
  exact I1.fpOk hb' (I1.hok.fresh hb')
noncomputable def j4:List D→List D→List D
 |a::as,b::bs=>.tup [a,b]::j4 as bs
 |_,_=>[]
theorem uE:∀(l m:List D) (i:Nat) (d:D),(j4 l m)[i]?=some d→∃a b,l[i]?=some a∧m[i]?=some b∧d= .tup [a,b]
 | [],_,i,d,h=>by unfold j4 at h;simp at h
 |_::_,[],i,d,h=>by unfold j4 at h;simp at h
 |a::as,b::bs,0,d,h=>by unfold j4 at h;simp at h;exact(dR a b rfl rfl h.symm)
 |a::as,b::bs,i+1,d,h=>by
  unfold j4 at h;refine bA (uE as bs i d (by simpa using h)) fun x y h1 h2 h3=>?_;exact(dR x y (by simpa using h1) (by simpa using h2) h3)
theorem uF:∀(l m:List D),(j4 l m).length=min l.length m.length
 | [],_=>by unfold j4;simp
 |_::_,[]=>by unfold j4;simp
 |a::as,b::bs=>by unfold j4;rw[length_cons,length_cons,length_cons,uF];omega
theorem DG {K:W.Frag}{G:Hp}{a b:Addr}{xs ys:List V}{ds es:List D}(sq:LsS K G a xs)(rl:RepL K G ds xs)(sq':LsS K G b ys)(rl':RepL K G es ys):Bu K (Ja a b) (j4 ds es) G:=by
 intro G2 H2 g1 g2 i;have s2:=g2 _ _ (g1 _ _ sq.h);have s2':=g2 _ _ (g1 _ _ sq'.h);refine⟨fun d hd=>?_,fun hl=>(dR xs ys s2 s2' (by rw[uF,rl.length,rl'.length]at hl;omega))⟩;refine cps fun PP kP=>?_;refine bA (uE _ _ _ _ hd) fun d1 d2 q1 q2 e=>?_;subst e;obtain⟨v,hv,rv⟩:=rl.get q1;obtain⟨v',hv',rv'⟩:=rl'.get q2;refine kP ?_;clear kP PP;refine⟨(oE xs ys v v' s2 s2' hv hv'),fun y H' hZ163=>?_⟩;refine ie (hZ163) fun p z z' hp e1 e2 h h'=>?_;subst e1 e2;have q:=h xs s2;rw[hv]at q;cases q;have q:=h' ys s2';rw[hv']at q;cases q;have x:=Ext.new g2 hp (.tup [v,v']);exact⟨_,x,rep_tup.mpr (dR p _ rfl (.of au) (.cons (rv.mono (g1.trans x.gg)) (.cons (rv'.mono (g1.trans x.gg)) .nil)))⟩
noncomputable def pI:List D→Res (List D)
 | [.lst l,.lst m]=>.ok (j4 l m)
 |_=>.bad
theorem lF {a b:Expr}{p pos:Pos}{fs:DS→Res (List D)}(hg:Gl X "zip")(hm:X.mg "zip" =none)(ha:mW X E [a,b] fs)(hs:starEach [a,b] X.env=[(false,eval a X.env),(false,eval b X.env)]:=by rfl)(hs2:starEach [b] X.env=[(false,eval b X.env)]:=by rfl):PI X (.Tuple elts x1 tp) (.Call (.Name "zip" p) [a,b] [] pos) (tDI X.K E (fun ρ=>(fs ρ).bind pI)):=by
 intro pins s σ H R I hZ21;obtain⟨G,ρ,hsm,hro,ho,k⟩:=hZ21;refine Gp hg hm (jC ha) hs hs2 pins s σ H R I ⟨G,ρ,hsm,hro,ho.fst,fun ds e vs G1 H1 x1 p1=>?_⟩;have kk:=ho.snd e x1.hh;unfold pI at kk;split at kk
 ·rename_i l m;refine cps fun PP kP=>?_;refine bA (p1.inv) fun v r hS139 rv r0=>?_;subst hS139;refine bA (r0.inv) fun v' r' hS140 rv' r0'=>?_;subst hS140;refine kP ?_;clear kP PP;rw[r0'.inv0];rw[rep_lst]at rv rv';refine cps fun PP kP=>?_;refine bA (rv) fun b1 xs hS141 sq rl=>?_;subst hS141;refine bA (rv') fun b2 ys hS142 sq' rl'=>?_;subst hS142;refine kP ?_;clear kP PP;exact(l9 b1 b2 rfl ⟨xs,x1.gh _ _ sq.h⟩ ⟨ys,x1.gh _ _ sq'.h⟩ (k _ (al e rfl) _ G1 H1 x1 (DG sq rl sq' rl')))
 ·exact kk.elim
end
inductive tN (K:W.Frag)(E:XK)(n:Nat)(f:DS→Res D)(σ:St)(H:Hp)(Q:VK):Prop
 |mk (G:Hp) (ρ:DS) (s:Same G H) (r:Ro K G σ ρ) (o:OkR E H (f ρ)) (k:∀d,f ρ= .ok d→∀v G' H' S,Ext G H G' H'→Ow K G' H' n d v S→New H G' S→Q v H')
noncomputable def TN (K:W.Frag)(E:XK)(n:Nat)(f:DS→Res D)(te:TE):Prop:=
 ∀(σ:St) (G H:Hp) (ρ:DS) (Q:VK),Same G H→Ro K G σ ρ→OkR E H (f ρ)→(∀d,f ρ= .ok d→∀v G' H' S,Ext G H G' H'→Ow K G' H' n d v S→New H G' S→Q v H')→te σ H Q
theorem Ext.hnew {G H G' H':Hp}{p:Addr}(x:Ext G H G' H')(hp:H' p=none)(o:HO):Ext G H G' (bo H' p o):=
 ⟨fun b u e=>by rw[ak (aB (x.hh b u e) hp)];exact x.hh b u e,x.gg,fun b u e=>by rw[ak (aB (x.gh b u e) hp)];exact x.gh b u e,x.nw⟩
theorem New.step {H G2 H2 G3 H3:Hp}{S:List Addr}(w:New H G2 S)(hc:∀a∈S,∃o,H2 a=some o∧¬oH o)(x:Ext G2 H2 G3 H3):New H G3 S:=⟨w.1,fun a ha=>⟨(w.2 a ha).1,by
 cases q:G3 a with
 |none=>rfl
 |some o=>
  rcases x.nw a o q with z|z
  ·rw[(w.2 a ha).2]at z;cases z
  ·obtain⟨o',h,hk⟩:=hc a ha
   rcases z with z|z
   ·rw[z]at h;cases h
   ·have h2:=x.gh a o q;rw[x.hh a _ h]at h2;cases h2;exact(hk z).elim⟩⟩
theorem New.join {H H2 G:Hp}{S T:List Addr}(w:New H G S)(w':New H2 G T)(hc:∀a∈S,∃o,H2 a=some o∧¬oH o)(sh:Same H H2):New H G (S ++ T):=by
 refine⟨nodup_append.mpr ⟨w.1,w'.1,fun a ha b hb e=>?_⟩,fun a ha=>?_⟩
 ·subst e;obtain⟨o,h,_⟩:=hc a ha;rw[(w'.2 a hb).1]at h;cases h
 ·rcases mem_append.mp ha with z|z
  ·exact w.2 a z
  ·exact⟨sh.free (w'.2 a z).1,(w'.2 a z).2⟩
theorem AllW.has {K:W.Frag}{G H:Hp}{n:Nat}{ds:List D}{vs:List V}{S:List Addr}(h:AllW (Ow K G H n) ds vs S):∀a∈S,∃o,H a=some o∧¬oH o:=h.cell fun d v A q a ha=>let ⟨o,e,c⟩:=q.cell a ha;⟨o,e,c.nokey⟩
section
variable{X:Cx}{E:XK}{μ:List Nat}{r n:Nat}
theorem Av {e:Expr}{f:DS→Res D}(h:PN X E n e f):PE X e (tN X.K E n f):=by
 intro pins s σ H Q I hZ22;obtain⟨G,ρ,hs,hr,ho,k⟩:=hZ22;exact aO (h pins s σ G H ρ I hs hr ho) fun u s' hZ164=>(by obtain⟨d,e,v,G',H',S,I',rv,x,o,w⟩:=hZ164;exact⟨v,H',I',rv,k d e v G' H' S x o w⟩)
theorem PN.tn {e:Expr}{f:DS→Res D}{te:TE}(h:PE X e te)(t:TN X.K E n f te):PN X E n e f:=by
 intro pins s σ G H ρ I hs hr ho;refine aO (h pins s σ H (fun v H'=>∃d G' S,f ρ= .ok d∧Ext G H G' H'∧Ow X.K G' H' n d v S∧New H G' S) I (t σ G H ρ _ hs hr ho fun d e v G' H' S x o w=>(jb d G' S e x o w))) fun u s' hZ165=>(by obtain⟨v,H',I',rv,d,G',S,e,x,o,w⟩:=hZ165;exact⟨d,e,v,G',H',S,I',rv,x,o,w⟩)
theorem mm {K:W.Frag}{G G' H H':Hp}{p:Addr}{ds:List D}{vs:List V}(x:Ext G H G' H')(hp:H' p=none)(rl:RepL K G' ds vs):Ext G H G' (bo H' p (.lst vs))∧Ow K G' (bo H' p (.lst vs)) 1 (.lst ds) (.ref p) [p]∧New H G' [p]:=by
 refine⟨x.hnew hp _,(jb p vs ([]) rfl au rfl ?_),⟨nodup_cons.mpr ⟨not_mem_nil,nodup_nil⟩,fun a ha=>?_⟩⟩
 ·have go:∀{ds:List D} {vs:List V},RepL K G' ds vs→AllW (Ow K G' (bo H' p (.lst vs)) 0) ds vs []:=by
   intro ds
   induction ds with
   |nil=>intro vs h;exact⟨h.inv0,rfl⟩
   |cons d ds ih=>
    intro vs h;refine bA (h.inv) fun v q hS143 h1 h2=>?_;subst hS143;refine(oE v q ([]) ([]) rfl rfl ⟨rfl,h1⟩ ((ih h2).mono fun d v A _ _ z=>?_));exact z
  exact(go rl).mono fun d v A _ _ z=>z
 ·have e:a=p:=by simpa using ha
  subst e;exact⟨x.hh.free hp,by
   cases q:G' a with
   |none=>rfl
   |some o=>rw[x.gh a o q]at hp;cases hp⟩
theorem kM {es:List Expr}{pos:Pos}{f:DS→Res (List D)}(h:mW X E es f):PN X E 1 (.List es pos) (gJ f):=by
 refine .tn (At (jC h)) fun σ G H ρ Q hs hro ho k=>⟨G,ρ,hs,hro,ho.fst,fun ds e vs G1 H1 x1 r1=>?_⟩;have kk:=ho.snd e x1.hh;by_cases hl:aS ds.length=true
 ·refine⟨by rw[←r1.length];exact bP hl,fun p hp=>?_⟩;obtain⟨x,o,w⟩:=mm x1 hp r1;exact k (.lst ds) (al e (if_pos hl)) _ _ _ _ x o w
 ·rw[if_neg hl]at kk;exact kk.elim
theorem Dj {CX:sH}{k:Nat}{f:Addr}{fd:FuncData}{ps:List Str}{m:List D→Res D}{x:Str}{p pos:Pos}{e:Expr}{es:List Expr}{fs:DS→Res (List D)}(F:FnOk X.prog X.w X.K X.mg X.base CX k f fd ps (freshSp X.K n m))(hr:Room k X.A)(hg:Gl X x)(hm:X.mg x=some (.ref f))(hk:W.keepIn X.K (.ref f)=true)(hb:Binds X.K fd ps [])(hx:cQ CX X E)
  (ha:mW X E (e::es) fs) (hdb:(x==("__debug__" :Str))=false:=by decide) (he:starEach (e::es) X.env=(false,eval e X.env)::starEach es X.env:=by rfl) (hpl:(backTo pos (starEach es X.env)).any (·.1)=false:=by rfl) :
  PN X E n (.Call (.Name x p) (e::es) [] pos) (bL fs m):=
 .tn (C_ F hr hg hm hk hb .nil hx (jC ha) hdb he hpl) fun σ G H ρ Q hs hro ho k=>⟨G,ρ,hs,hro,ho.fst,fun ds e1 vs G1 H1 x1 p1=>⟨ds,G1,x1.gh,by rw[append_nil];exact p1,ho.snd e1 x1.hh,fun d ed v G' H' S xx o w=>k d (al e1 ed) v G' H' S (x1.trans xx) o ⟨w.1,fun a ha=>⟨x1.hh.free (w.2 a ha).1,(w.2 a ha).2⟩⟩⟩⟩
theorem Dk {e:Expr}{p pos:Pos}{f:DS→Res D}(h:PD X E e f)(hg:Gl X "list")(hm:X.mg "list" =none)(he:starEach [e] X.env=(false,eval e X.env)::starEach [] X.env:=by rfl):PN X E 1 (.Call (.Name "list" p) [e] [] pos) (bL (fun ρ=>(f ρ).bind fun d=>.ok [d]) dS):=by
 have hpd:mW X E [e] (fun ρ=>(f ρ).bind fun d=>.ok [d]):=aa h ac he;refine .tn (fg (x:= "list") (p:=p) (pos:=pos) iG hg hm kZ (jC hpd) (by decide) (by decide) he rfl) fun σ G H ρ Q hs hro ho k=>⟨G,ρ,hs,hro,ho.fst,fun ds e1 vs G1 H1 x1 p1=>?_⟩;have kk:=ho.snd e1 x1.hh;have e0:bL (fun ρ=>(f ρ).bind fun d=>.ok [d]) dS ρ=dS ds:=by show ((f ρ).bind fun d=>Res.ok [d]).bind dS=_;rw[e1];rfl
 unfold dS at kk;split at kk
 ·obtain⟨v,r,rfl,t,r0⟩:=p1.inv;rw[r0.inv0];rw[rep_lst]at t;obtain⟨q,xs,rfl,sq,t⟩:=t;refine⟨q,xs,rfl,.inl (x1.gh.seq sq.sq),fun l hl=>?_⟩;obtain⟨x,o,w⟩:=mm x1 hl t;exact k _ e0 _ _ _ _ x o w
 ·obtain⟨v,r,rfl,t,r0⟩:=p1.inv;rw[r0.inv0];rw[rep_tup]at t;obtain⟨q,xs,rfl,sq,t⟩:=t;refine⟨q,xs,rfl,.inr (x1.gh.seqT sq),fun l hl=>?_⟩;obtain⟨x,o,w⟩:=mm x1 hl t;exact k _ e0 _ _ _ _ x o w
 ·exact kk.elim
theorem PZ.zero {e:Expr}{f:DS→Res D}(h:PZ X E μ n e f):PZ X E μ 0 e f:=by
 intro pins s σ Ge B G H ρ fp I R ho;refine aO (h pins s σ Ge B G H ρ fp I R ho) fun u s' hZ166=>?_;obtain⟨d,e,v,y,P,S,I',rv,x,sg,sh,o,w⟩:=hZ166;have dec:∀b,Decidable (b∈S):=fun b=>Classical.propDecidable _;have c:Same y (fun b=>if b∈S then P b else y b):=fun b u e=>by
  show (if b∈S then P b else y b)=some u
  by_cases q:b∈S
  ·rw[(w.2 b q).2]at e;cases e
  ·rw[if_neg q];exact e
 have rp:Rep X.K (fun b=>if b∈S then P b else y b) d v:=o.rep c fun a ha u e=>by
  show (if a∈S then P a else y a)=some u
  rw[if_pos ha];exact e
 refine⟨d,e,v,fun b=>if b∈S then P b else y b,P,[],I',rv,⟨fun b u e=>?_,x.eg.trans c,x.bh,fun b u e=>?_,fun i a e=>?_,x.ob,x.oc,x.nd,x.dj,fun i d e=>?_⟩,sg.trans c,sh,⟨rfl,rp⟩,.nil⟩
 ·have e:(if b∈S then P b else y b)=some u:=e
  by_cases q:b∈S
  ·rw[if_pos q]at e;exact e
  ·rw[if_neg q]at e;exact x.gh b u e
 ·have e:(if b∈S then P b else y b)=some u:=e
  by_cases q:b∈S
  ·exact .inr (.inl (R.bh.free (w.2 b q).1))
  ·rw[if_neg q]at e;exact x.nw b u e
 ·show (if a∈S then P a else y a)=none
  rw[if_neg (fun z=>R.apart w i a z e)];exact x.gf i a e
 ·obtain⟨v,hv,hh⟩:=x.sl i d e;exact⟨v,hv,hh.mono c fun a _ o eo=>eo⟩
theorem lq {ρ:DS}:gZ [] ρ=ρ:=by
 unfold gZ;apply ext_getElem?;intro i;rw[List.getElem?_mapIdx];cases ρ[i]? <;> simp
theorem ay {e:Expr}{f:DS→Res D}(h:PN X E n e f):PZ X E [] n e f:=by
 have:=aF (μ:=[]) h;unfold dQ at this;simp only[lq]at this;exact this
theorem kU {tg iter:Expr}{fi:DS→Res (List D)}(h:PI X tg iter (tDI X.K E fi)):PI X tg iter (tZI X.K E [] fi):=by
 have:=eZ (μ:=[]) h;unfold zy at this;simp only[lq]at this;exact this
theorem wN {st:Stmt}{i:Nat}{x:Str}{te:TE}{f:DS→Res D}(hi:X.N[i]?=some x)(hps:PS X st (sw te (b9 i)))(t:TN X.K E n f te)(hm:μ.getD i 0=n):mX X E μ r st (aT i (dQ μ f)):=by
 intro pins s σ Ge B G H ρ fp I R ho;have hiσ:i<σ.length:=by rw[I.len];exact(cU hi).1
 refine aO (hps pins s σ H {nx:=fun σ' H'=>∃d v G' S,dQ μ f ρ= .ok d∧σ'=σ.set i (some v)∧Rw X.K μ Ge B G' H' σ ρ fp∧Same G G'∧Ow X.K G' H' n d v S∧New H G' S,bk:=fun _ _=>False,ct:=fun _ _=>False,rt:=fun _ _=>False} I (t σ G H (gZ μ ρ) _ R.gh R.rof (ho.res.le R.bh) fun d e v G' H' S x o w=>(Cz d v G' S e rfl (R.growF x) x.gg o w))) fun fl s1 q=>?_
 ·cases fl with
  |next=>
   obtain⟨σ',H',I',d,v,G',S,e,e2,R',sg,o,w⟩:=q;subst e2;rw[←hm]at o;exact⟨_,_,G',H',_,bM e,I',R'.put hiσ o w.1 (fun a ha=>⟨(w.2 a ha).2,R.bh.free (w.2 a ha).1⟩) (fun j _=>R.apart w j),sg⟩
  |brk=>obtain⟨_,_,_,q⟩:=q;exact q.elim
  |cont=>obtain⟨_,_,_,q⟩:=q;exact q.elim
  |ret u=>obtain⟨_,_,_,_,_,q⟩:=q;exact q.elim
end
theorem TN.freeze {K:W.Frag}{E:XK}{n:Nat}{f:DS→Res D}{te:TE}(t:TN K E n f te):TN K E 0 f te:=fun σ G H ρ Q hs hr ho k=>t σ G H ρ Q hs hr ho fun d e v G' H' S x o w=>by
 refine cj (x.freeze hs w o) fun G2 x2 _ rp=>?_;exact k d e v G2 H' [] x2 ⟨rfl,rp⟩ .nil
noncomputable def GC (K:W.Frag)(n:Nat)(g:TG)(asg:D→DS→Option DS):Prop:=
 ∀(G H:Hp) (σ:St) (ρ ρ':DS) (v:V) (d:D),σ.length=n→Same G H→Ro K G σ ρ→Rep K G d v→asg d ρ=some ρ'→g v σ H fun σ' H'=>H'=H∧Ro K G σ' ρ'
theorem wm {K:W.Frag}{n j:Nat}(hj:j<n):GC K n (b9 j) (bR j):=by
 intro G H σ ρ ρ' v d hl hs R h e;cases e;exact⟨rfl,R.set (by rw[hl];exact hj) h⟩
theorem zA {K:W.Frag}{n j k:Nat}(hj:j<n)(hk:k<n):GC K n (xM K 2 (jq (b9 j) (jq (b9 k) xL))) (eE j k):=by
 intro G H σ ρ ρ' v d hl hs R h e;unfold eE at e;split at e
 ·rename_i a b;cases e;rw[rep_tup]at h;refine cps fun PP kP=>?_;obtain⟨p,xs,rfl,t,rl⟩:=h;obtain⟨x,q,rfl,rx,rl⟩:=rl.inv;obtain⟨y,q,rfl,ry,rl⟩:=rl.inv;refine kP ?_;clear kP PP;have:=rl.inv0;subst this;have R2:=(R.set (j:=j) (by rw[hl];exact hj) rx).set (j:=k) (by rw[length_set,hl];exact hk) ry;exact⟨p,[x,y],rfl,(show TpS K H p _ from ⟨hs _ _ t.h⟩).sq,rfl,x,[y],rfl,y,[],rfl,rfl,rfl,R2⟩
 ·cases e
theorem mP {K:W.Frag}{caps:List (Option Nat)}{i j:Nat}(hi:caps[i]?=some none)(hj:caps[j]?=some none):kY caps (xM K 2 (jq (b9 i) (jq (b9 j) xL))):=fun x σ0 H Q q=>by
 refine IM (q) fun a xs e1 sq hl v1 r1 e2 v2 r2 e3 e4 q=>?_;refine⟨a,xs,e1,sq,hl,v1,r1,e2,v2,r2,e3,e4,q,by simp,fun k m v hk hv=>?_⟩;have n1:k≠i:=fun z=>by rw[z,hi]at hk;cases hk
 have n2:k≠j:=fun z=>by rw[z,hj]at hk;cases hk
 rw[getElem?_set_ne (Ne.symm n2),getElem?_set_ne (Ne.symm n1)];exact hv
noncomputable def pJ {α:Type}(asg:D→DS→Option DS)(ρ:DS)(f:DS→Res α)(d:D):Res α:=match asg d ρ with
 |some ρ'=>f ρ'
 |none=>.bad
noncomputable def bm (fi:DS→Res (List D))(caps:List (Option Nat))(asg:D→DS→Option DS)(ft:DS→Res Bool)(fe:DS→Res D):DS→Res D:=fun ρ=>(fi ρ).bind fun ds=>if aS ds.length=true then
 (bB (pJ asg (dn caps ρ) ft) (pJ asg (dn caps ρ) fe) ds).bind fun es=>.ok (.lst es) else .bad
theorem lZ {t:D→Res Bool}{f:D→Res D}{c:Addr}:∀(l:List D),bB t f l≠ .exc c
 | []=>fun z=>by unfold bB at z;cases z
 |a::as=>fun z=>by
  unfold bB at z;split at z
  ·split at z
   ·cases q:bB t f as with
    |bad=>rw[q]at z;cases z
    |ok x=>rw[q]at z;cases z
    |exc c'=>rw[q]at z;have z':Res.exc c'=Res.exc c:=z;cases z';exact lZ as q
   ·cases z
  ·exact lZ as z
  ·cases z
theorem oq {t:D→Res Bool}{f:D→Res D}{d:D}{o:List D}(hd:bB t f [d]= .ok o):∀{as es:List D},bB t f as= .ok es→bB t f (as ++ [d])= .ok (es ++ o):=by
 intro l_
 induction l_ with
 |nil=>
  rintro es h;exact by unfold bB at h;cases h;exact hd
 |cons a as ihh=>
  rintro es h;rw[cons_append];unfold bB at h ⊢;split at h
  ·rename_i ha;split at h
   ·rename_i e0 hf;cases q:bB t f as with
    |bad=>rw[q]at h;cases h
    |exc c=>rw[q]at h;cases h
    |ok e2=>
     rw[q]at h;have h':Res.ok (e0::e2)=Res.ok es:=h;cases h';rw[ihh q];rfl
   ·cases h
  ·exact ihh h
  ·cases h
section
variable{X:Cx}{E:XK}{n:Nat}
theorem nP {K:W.Frag}{caps:List (Option Nat)}{g:TG}{asg:D→DS→Option DS}{fi:DS→Res (List D)}{ft:DS→Res Bool}{fe:DS→Res D}(hg:GC K caps.length g asg)(hgm:∀x σ H (Q Q':St→Hp→Prop),(∀σ' H',Q σ' H'→Q' σ' H')→g x σ H Q→g x σ H Q') :
  TN K E (n+1) (bm fi caps asg ft fe) (Bb (tDI K E fi) caps g (tDT K qJ ft) (tN K qJ n fe)):=by
 intro σ G H j Q hs hro ho k;refine⟨G,j,hs,hro,ho.fst,fun h e J G1 H1 x1 src=>?_⟩;have kk:=ho.snd e x1.hh;by_cases hl:aS h.length=true
 ·rw[if_pos hl]at kk;cases hm:bB (pJ asg (dn caps j) ft) (pJ asg (dn caps j) fe) h with
  |bad=>rw[hm]at kk;exact kk.elim
  |exc c=>exact absurd hm (lZ h)
  |ok es=>
   have hres:bm fi caps asg ft fe j= .ok (.lst es):=al e (by rw[if_pos hl];exact al hm rfl);refine⟨fun i m ys H2=>m=h.length-i∧i≤h.length∧∃M B S,Ext G1 H1 M H2∧bB (pJ asg (dn caps j) ft) (pJ asg (dn caps j) fe) (h.take i)= .ok B∧AllW (Ow K M H2 n) B ys S∧New H1 M S,
    ⟨_,rfl,zero_le _,G1,[],[],.refl x1.gh,rfl,⟨rfl,rfl⟩,.nil⟩,?_⟩
   intro i m ys H2 hZ23;refine cps fun PP kP=>?_;obtain⟨rfl,hi,M,B,S,x2,F,N,w1⟩:=hZ23;have hlen:ys.length≤sizeLine:=by
    have h1:=xH F;rw[length_take]at h1;have h2:=bP hl;rw[←N.length];omega
   obtain⟨sg,ss⟩:=src M H2 x2.gg x2.gh i;refine kP ?_;clear kP PP;by_cases hlt:i<h.length
   ·obtain⟨go,yl⟩:=sg h[i] (by simp[hlt]);have s:h=h.take i ++ (h[i]::h.drop (i+1)):=by rw[List.getElem_cons_drop,List.take_append_drop]
    refine .inr (oC go (fun ys' H'=>∃M B S,Ext G1 H1 M H'∧bB (pJ asg (dn caps j) ft) (pJ asg (dn caps j) fe) (h.take (i+1))= .ok B∧AllW (Ow K M H' n) B ys' S∧New H1 M S) (fun ys' H' hZ167=>(by refine ja (hZ167) fun G3 es3 S3 a b c d=>?_;exact⟨h.length-(i+1),by omega,rfl,hlt,G3,es3,S3,a,b,c,d⟩)) (fun x H' hy=>?_));obtain⟨G3,x3,rx⟩:=yl x H' hy;have htk:h.take (i+1)=h.take i ++ [h[i]]:=by rw[List.take_add_one];simp[hlt]
    have hm2:=hm;rw[s]at hm2;refine bA (xG hm2) fun ea eb q1 L q3=>?_;rw[F]at q1;cases q1;have hcl:(fz caps σ).length=caps.length:=by simp[fz]
    unfold bB at L;have ht0:∃b,pJ asg (dn caps j) ft h[i]= .ok b:=by
     cases I:pJ asg (dn caps j) ft h[i] with
     |bad=>rw[I]at L;cases L
     |exc c=>rw[I]at L;cases L
     |ok b=>exact⟨b,rfl⟩
    obtain⟨b,I⟩:=ht0;rw[I]at L;cases qa:asg h[i] (dn caps j) with
    |none=>unfold pJ at I;rw[qa]at I;cases I
    |some C=>
    have ht2:ft C= .ok b:=by unfold pJ at I;rw[qa]at I;exact I
    refine hgm _ _ _ _ _ (fun σ2 H3 hZ168=>?_) (hg G3 H' _ _ C x h[i] hcl x3.gh (BF (hro.mono ((x1.gg.trans x2.gg).trans x3.gg))) rx qa);obtain⟨e3,ro3⟩:=hZ168;subst e3;refine⟨G3,C,x3.gh,ro3,by rw[ht2];trivial,fun b' eb' G4 H4 x4=>?_⟩;rw[ht2]at eb';cases eb';have x24:=(x2.trans x3).trans x4;have O:=x3.trans x4;have P:AllW (Ow K G4 H4 n) B ys S:=N.mono fun d v A _ _ z=>z.mono O.gg fun a _ o eo=>O.hh a o eo;have w4:New H1 G4 S:=w1.step N.has O;cases b with
    |false=>
     rw[if_neg Bool.false_ne_true];refine(jb G4 B S x24 ?_ P w4);rw[htk];have:=oq (t:=pJ asg (dn caps j) ft) (f:=pJ asg (dn caps j) fe) (d:=h[i]) (o:=[]) (by unfold bB;rw[I];rfl) F;rw[append_nil]at this;exact this
    |true=>
     rw[if_pos rfl];dsimp only at L;have fe2:pJ asg (dn caps j) fe h[i]=fe C:=by unfold pJ;rw[qa]
     refine⟨hlen,G4,C,x4.gh,ro3.mono x4.gg,?_,fun y ey v G5 H5 S5 x5 ry w5=>?_⟩
     ·rw[fe2]at L;cases hf:fe C with
      |ok y=>trivial
      |exc c=>rw[hf]at L;cases L
      |bad=>rw[hf]at L;cases L
     ·refine(jb G5 (B ++ [y]) (S ++ S5) (x24.trans x5) ?_ ((P.mono fun d v A _ _ z=>z.mono x5.gg fun a _ o eo=>x5.hh a o eo).append (.one ry)) ((w4.step P.has x5).join w5 P.has (x2.hh.trans O.hh)));rw[htk];exact oq (by unfold bB;rw[I,fe2,ey];rfl) F
   ·have hie:i=h.length:=by omega
    subst hie;rw[take_length,hm]at F;cases F;refine .inl ⟨ss (le_refl _),hlen,fun p hp=>?_⟩;have x12:=x1.trans x2;refine k _ hres (.ref p) M _ (p::S) (x12.hnew hp _) (jb p ys S rfl au rfl (N.mono fun d v A _ hA z=>z.mono (.refl _) fun a ha o eo=>by rw[ak (aB eo hp)];exact eo)) ⟨nodup_cons.mpr ⟨fun z=>?_,w1.1⟩,fun a ha=>?_⟩
    ·obtain⟨o,ho,_⟩:=N.has p z;rw[hp]at ho;cases ho
    ·rcases mem_cons.mp ha with z|z
     ·subst z;exact⟨x12.hh.free hp,by
       cases q:M a with
       |none=>rfl
       |some o=>rw[x2.gh a o q]at hp;cases hp⟩
     ·exact⟨x1.hh.free (w1.2 a z).1,(w1.2 a z).2⟩
 ·rw[if_neg hl]at kk;exact kk.elim
theorem wo {j:Nat}:∀x σ H (Q Q':St→Hp→Prop),(∀σ' H',Q σ' H'→Q' σ' H')→b9 j x σ H Q→b9 j x σ H Q':=fun _ _ _ _ _ k h=>k _ _ h
theorem zC {K:W.Frag}{j i:Nat}:∀x σ H (Q Q':St→Hp→Prop),(∀σ' H',Q σ' H'→Q' σ' H')→xM K 2 (jq (b9 j) (jq (b9 i) xL)) x σ H Q→xM K 2 (jq (b9 j) (jq (b9 i) xL)) x σ H Q':=fun _ _ _ _ _ k h=>by
 refine IM (h) fun a xs e1 sq hl v1 r1 e2 v2 r2 e3 e4 q=>?_;exact⟨a,xs,e1,sq,hl,v1,r1,e2,v2,r2,e3,e4,k _ _ q⟩
theorem b0 {elt iter:Expr}{ifs:List Expr}{x:Str}{px pos:Pos}{scope:Scope}{N:List Str}{caps:List (Option Nat)}{j:Nat}{fi:DS→Res (List D)}{ft:DS→Res Bool}{fe:DS→Res D}(hc:X.calm=true)(S:CompSc X scope N caps)(hjN:N[j]?=some x)(hjc:caps[j]?=some none)(hjl:scope.names.lookup x=some .local)
  (hi:PI X (.Name x px) iter (tDI X.K E fi)) (ht:∀s H C ex,xh (X.comp s H scope C N ex) qJ ifs ft) (he:∀s H C ex,PN (X.comp s H scope C N ex) qJ n elt fe)
  (hs:∀x,foldedSetIterable iter X.env x=pure x:=by intro _;rfl):PN X E (n+1) (.ListComp elt [⟨.Name x px,iter,ifs,0⟩] scope pos) (bm fi caps (bR j) ft fe):=
 have hlb:=lookup_relabel_local (env:=X.env) hjl
 .tn (wH (pos:=pos) (te:=tN X.K qJ n fe) (tc:=tDT X.K qJ ft) hc S hi (fun s H C ex=>eB (X:=X.comp s H scope C N ex) (i:=j) S.nd hjN (.inl hlb) (.inr hlb)) (lA hjc) (fun s H C ex=>ht s H C ex) (fun s H C ex=>Av (he s H C ex)) hs)
  (nP (wm (cU hjc).1) wo)
theorem AB {elt iter:Expr}{ifs:List Expr}{x y:Str}{px py pt pos:Pos}{kt:Nat}{scope:Scope}{N:List Str}{caps:List (Option Nat)}{j l:Nat}{fi:DS→Res (List D)}{ft:DS→Res Bool}{fe:DS→Res D}(hc:X.calm=true)(S:CompSc X scope N caps)(hjN:N[j]?=some x)(hlN:N[l]?=some y)(hjc:caps[j]?=some none)(hlc:caps[l]?=some none)(hjl:scope.names.lookup x=some .local)(hll:scope.names.lookup y=some .local)
  (hi:PI X (.Tuple [.Name x px,.Name y py] kt pt) iter (tDI X.K E fi)) (ht:∀s H C ex,xh (X.comp s H scope C N ex) qJ ifs ft) (he:∀s H C ex,PN (X.comp s H scope C N ex) qJ n elt fe)
  (hs:∀x,foldedSetIterable iter X.env x=pure x:=by intro _;rfl):PN X E (n+1) (.ListComp elt [⟨.Tuple [.Name x px,.Name y py] kt pt,iter,ifs,0⟩] scope pos) (bm fi caps (eE j l) ft fe):=
 have hlb:=lookup_relabel_local (env:=X.env) hjl;have hlb':=lookup_relabel_local (env:=X.env) hll
 .tn (wH (pos:=pos) (te:=tN X.K qJ n fe) (tc:=tDT X.K qJ ft) hc S hi (fun s H C ex=>vC (X:=X.comp s H scope C N ex) hc (h_ (eB (X:=X.comp s H scope C N ex) (i:=j) S.nd hjN (.inl hlb) (.inr hlb)) (h_ (eB (X:=X.comp s H scope C N ex) (i:=l) S.nd hlN (.inl hlb') (.inr hlb')) rV))) (mP hjc hlc) (fun s H C ex=>ht s H C ex) (fun s H C ex=>Av (he s H C ex)) hs)
  (nP (zA (cU hjc).1 (cU hlc).1) zC)
theorem jF {elt iter:Expr}{ifs:List Expr}{x y:Str}{px py pos spos:Pos}{scope:Scope}{N:List Str}{caps:List (Option Nat)}{i j:Nat}{fi:DS→Res (List D)}{ft:DS→Res Bool}{fe:DS→Res D}(hN:X.N.Nodup)(hi:X.N[i]?=some y)(hy:X.env.scope.names.lookup y=some .local)(hc:X.calm=true)(S:CompSc X scope N caps)(hjN:N[j]?=some x)(hjc:caps[j]?=some none)(hjl:scope.names.lookup x=some .local)
  (hit:PI X (.Name x px) iter (tDI X.K E fi)) (ht:∀s H C ex,xh (X.comp s H scope C N ex) qJ ifs ft) (he:∀s H C ex,PN (X.comp s H scope C N ex) qJ n elt fe)
  (hsw:swapsWith (.ListComp elt [⟨.Name x px,iter,ifs,0⟩] scope pos) (some (.Name y py)) spos.line X.env=pure true:=by rfl)
  (hs:∀x,foldedSetIterable iter X.env x=pure x:=by intro _;rfl):∃te,PS X (.Assign [.Name y py] (.ListComp elt [⟨.Name x px,iter,ifs,0⟩] scope pos) spos) (sw te (b9 i))∧TN X.K E (n+1) (bm fi caps (bR j) ft fe) te:=
 have hlb:=lookup_relabel_local (env:=X.env) hjl
 ⟨_,pc (pos:=pos) (py:=py) (spos:=spos) (te:=tN X.K qJ n fe) (tc:=tDT X.K qJ ft) hN hi hy hc S hit (fun s H C ex=>eB (X:=X.comp s H scope C N ex) (i:=j) S.nd hjN (.inl hlb) (.inr hlb)) (lA hjc) (fun s H C ex=>ht s H C ex) (fun s H C ex=>Av (he s H C ex)) hsw hs,
  nP (wm (cU hjc).1) wo⟩
theorem uc {elt iter:Expr}{ifs:List Expr}{x z y:Str}{px pz pt py pos spos:Pos}{kt:Nat}{scope:Scope}{N:List Str}{caps:List (Option Nat)}{i j l:Nat}{fi:DS→Res (List D)}{ft:DS→Res Bool}{fe:DS→Res D}(hN:X.N.Nodup)(hi:X.N[i]?=some y)(hy:X.env.scope.names.lookup y=some .local)(hc:X.calm=true)(S:CompSc X scope N caps)(hjN:N[j]?=some x)(hlN:N[l]?=some z)(hjc:caps[j]?=some none)(hlc:caps[l]?=some none)(hjl:scope.names.lookup x=some .local)(hll:scope.names.lookup z=some .local)
  (hit:PI X (.Tuple [.Name x px,.Name z pz] kt pt) iter (tDI X.K E fi)) (ht:∀s H C ex,xh (X.comp s H scope C N ex) qJ ifs ft) (he:∀s H C ex,PN (X.comp s H scope C N ex) qJ n elt fe)
  (hsw:swapsWith (.ListComp elt [⟨.Tuple [.Name x px,.Name z pz] kt pt,iter,ifs,0⟩] scope pos) (some (.Name y py)) spos.line X.env=pure true:=by rfl)
  (hs:∀x,foldedSetIterable iter X.env x=pure x:=by intro _;rfl):∃te,PS X (.Assign [.Name y py] (.ListComp elt [⟨.Tuple [.Name x px,.Name z pz] kt pt,iter,ifs,0⟩] scope pos) spos) (sw te (b9 i))∧TN X.K E (n+1) (bm fi caps (eE j l) ft fe) te:=
 have hlb:=lookup_relabel_local (env:=X.env) hjl;have hlb':=lookup_relabel_local (env:=X.env) hll
 ⟨_,pc (pos:=pos) (py:=py) (spos:=spos) (te:=tN X.K qJ n fe) (tc:=tDT X.K qJ ft) hN hi hy hc S hit (fun s H C ex=>vC (X:=X.comp s H scope C N ex) hc (h_ (eB (X:=X.comp s H scope C N ex) (i:=j) S.nd hjN (.inl hlb) (.inr hlb)) (h_ (eB (X:=X.comp s H scope C N ex) (i:=l) S.nd hlN (.inl hlb') (.inr hlb')) rV))) (mP hjc hlc) (fun s H C ex=>ht s H C ex) (fun s H C ex=>Av (he s H C ex)) hsw hs,
  nP (zA (cU hjc).1 (cU hlc).1) zC⟩
end
section
variable{K:W.Frag}{μ:List Nat}{Ge B G H:Hp}{σ:St}{ρ:DS}{fp:Nat→List Addr}{j n:Nat}
noncomputable def yS (B G:Hp)(fp:Nat→List Addr)(S:List Addr):Prop:=∀b∈S,(G b=none∧B b=none)∧∀i,b∉fp i
theorem Rw.top {l:List D}(R:Rw K μ Ge B G H σ ρ fp)(hr:ρ[j]?=some (some (.lst l)))(hm:μ.getD j 0=n+1):∃a xs T,σ[j]?=some (some (.ref a))∧H a=some (.lst xs)∧fp j=a::T∧AllW (Ow K G H n) l xs T:=by
 obtain⟨v,hv,o⟩:=R.sl j _ hr;rw[hm]at o;refine ja (o) fun a xs T e1 e2 e3 h=>?_;subst e1;exact(jb a xs T hv e2 e3 h)
theorem Rw.relist {l':List D}{a:Addr}{ys:List V}{T T':List Addr}(R:Rw K μ Ge B G H σ ρ fp)(hm:μ.getD j 0=n+1)(hv:σ[j]?=some (some (.ref a)))(hf:fp j=a::T)(o:AllW (Ow K G (bo H a (.lst ys)) n) l' ys T')(nd:T'.Nodup)(hT:∀b∈T',b∈T∨((G b=none∧B b=none)∧∀i,b∉fp i)):Rw K μ Ge B G (bo H a (.lst ys)) σ (ρ.set j (some (.lst l'))) (fun i=>if i=j then a::T' else fp i):=by
 have hnd:=R.nd j;rw[hf]at hnd;have haT:a∉T:=(nodup_cons.mp hnd).1;have I:a∈fp j:=by rw[hf];exact mem_cons_self ..
 have inT:∀b∈T,b∈fp j:=fun b hb=>by rw[hf];exact cR hb
 refine R.write I hv (by rw[hm];exact(jb a ys T' rfl au rfl o)) (nodup_cons.mpr ⟨fun z=>?_,nd⟩) (fun b hb=>?_) fun i hi b hb hbi=>?_
 ·rcases hT a z with y|y
  ·exact haT y
  ·exact y.2 j I
 ·rcases mem_cons.mp hb with z|z
  ·subst z;exact⟨R.gf j _ I,R.ob j _ I⟩
  ·rcases hT b z with y|y
   ·exact⟨R.gf j _ (inT b y),R.ob j _ (inT b y)⟩
   ·exact y.1
 ·rcases mem_cons.mp hb with z|z
  ·subst z;exact hi (R.dj i j _ hbi I)
  ·rcases hT b z with y|y
   ·exact hi (R.dj i j _ hbi (inT b y))
   ·exact y.2 i hbi
theorem Rw.app1 {l:List D}{d:D}{v:V}{S T:List Addr}{a:Addr}{xs:List V}(R:Rw K μ Ge B G H σ ρ fp)(hm:μ.getD j 0=n+1)(hv:σ[j]?=some (some (.ref a)))(hH:H a=some (.lst xs))(hf:fp j=a::T)(h:AllW (Ow K G H n) l xs T)(o:Ow K G H n d v S)(nd:S.Nodup)(hS:yS B G fp S):Rw K μ Ge B G (bo H a (.lst (xs ++ [v]))) σ (ρ.set j (some (.lst (l ++ [d])))) (fun i=>if i=j then a::(T ++ S) else fp i):=by
 have hnd:=R.nd j;rw[hf]at hnd;have haj:a∈fp j:=by rw[hf];exact mem_cons_self ..
 have inT:∀b∈T,b∈fp j:=fun b w=>by rw[hf];exact cR w
 have neT:∀b,b∈T→b≠a:=fun b w z=>(nodup_cons.mp hnd).1 (z ▸ w);have neS:∀b,b∈S→b≠a:=fun b w z=>(hS b w).2 j (z ▸ haj);have o1:AllW (Ow K G (bo H a (.lst (xs ++ [v]))) n) l xs T:=h.mono fun d v A _ hA z=>z.mono (.refl _) fun b w u e=>by
  rw[ak (neT b (hA b w))];exact e
 have o2:Ow K G (bo H a (.lst (xs ++ [v]))) n d v S:=o.mono (.refl _) fun b w u e=>by
  rw[ak (neS b w)];exact e
 exact R.relist hm hv hf (o1.append (.one o2)) (nodup_append.mpr ⟨(nodup_cons.mp hnd).2,nd,fun b w c hc e=>by subst e;exact(hS b hc).2 j (inT b w)⟩) fun b w=>(mem_append.mp w).imp id (hS b)
theorem AllW.subs {P:D→V→List Addr→Prop}{ds:List D}{vs:List V}{S A L R:List Addr}(e:S=L ++ A ++ R):(∀b∈L,b∈S)∧(∀b∈A,b∈S)∧∀b∈R,b∈S:=by
 subst e;exact⟨fun b h=>mem_append_left _ (mem_append_left _ h),fun b h=>mem_append_left _ (mem_append_right _ h),fun b h=>mem_append_right _ h⟩
theorem jV {A A' L R:List Addr}(h:(L ++ A ++ R).Nodup)(nd:A'.Nodup)(hA:∀b∈A',b∈A∨(b∉L∧b∉R)):(L ++ A' ++ R).Nodup:=by
 refine cps fun PP kP=>?_;obtain⟨h1,h2,h3⟩:=nodup_append.mp h;obtain⟨h4,h5,h6⟩:=nodup_append.mp h1;refine kP ?_;clear kP PP;refine nodup_append.mpr ⟨nodup_append.mpr ⟨h4,nd,fun a ha b hb e=>?_⟩,h2,fun a ha b hb e=>?_⟩
 ·subst e
  rcases hA a hb with z|z
  ·exact h6 a ha a z rfl
  ·exact z.1 ha
 ·subst e
  rcases mem_append.mp ha with z|z
  ·exact h3 a (mem_append_left _ z) a hb rfl
  ·rcases hA a z with y|y
   ·exact h3 a (mem_append_right _ y) a hb rfl
   ·exact y.2 hb
theorem Rw.set1 {l:List D}{d d0:D}{v:V}{S T:List Addr}{a:Addr}{xs:List V}{m:Nat}(R:Rw K μ Ge B G H σ ρ fp)(hm:μ.getD j 0=n+1)(hv:σ[j]?=some (some (.ref a)))(hH:H a=some (.lst xs))(hf:fp j=a::T)(h:AllW (Ow K G H n) l xs T)(hl:l[m]?=some d0)(o:Ow K G H n d v S)(nd:S.Nodup)(hS:yS B G fp S):∃fp',Rw K μ Ge B G (bo H a (.lst (xs.set m v))) σ (ρ.set j (some (.lst (l.set m d)))) fp':=by
 have hnd:=R.nd j;rw[hf]at hnd;have haj:a∈fp j:=by rw[hf];exact mem_cons_self ..
 have inT:∀b∈T,b∈fp j:=fun b x=>by rw[hf];exact cR x
 have neT:∀b,b∈T→b≠a:=fun b x z=>(nodup_cons.mp hnd).1 (z ▸ x);have neS:∀b,b∈S→b≠a:=fun b x z=>(hS b x).2 j (z ▸ haj);refine pH (h.at hl) fun w A L Q g1 g2 g3 g4=>?_;obtain⟨sL,sA,sR⟩:=AllW.subs (P:=Ow K G H n) (ds:=l) (vs:=xs) g2;have hT:=(nodup_cons.mp hnd).2;rw[g2]at hT;have big:=g4 (Ow K G (bo H a (.lst (xs.set m v))) n) (fun d v C hC z=>z.mono (.refl _) fun b x u e=>by rw[ak (neT b ((hC b x).elim (sL b) (sR b)))];exact e) d v S (o.mono (.refl _) fun b x u e=>by rw[ak (neS b x)];exact e);refine⟨_,R.relist hm hv hf big (jV hT nd fun b x=>.inr ⟨fun z=>(hS b x).2 j (inT b (sL b z)),fun z=>(hS b x).2 j (inT b (sR b z))⟩) fun b x=>?_⟩
 rcases mem_append.mp x with z|z
 ·rcases mem_append.mp z with y|y
  ·exact .inl (sL b y)
  ·exact .inr (hS b y)
 ·exact .inl (sR b z)
theorem Rw.row {l row':List D}{row:List D}{T:List Addr}{a:Addr}{xs ys':List V}{m:Nat}(R:Rw K μ Ge B G H σ ρ fp)(hm:μ.getD j 0=n+2)(hv:σ[j]?=some (some (.ref a)))(hH:H a=some (.lst xs))(hf:fp j=a::T)(h:AllW (Ow K G H (n+1)) l xs T)(hl:l[m]?=some (.lst row)) :
  ∃b ys U,xs[m]?=some (.ref b)∧H b=some (.lst ys)∧AllW (Ow K G H n) row ys U∧U.Nodup∧b∉U∧b∈fp j∧(∀c∈U,c∈fp j)∧
   ∀U',AllW (Ow K G (bo H b (.lst ys')) n) row' ys' U'→U'.Nodup→(∀c∈U',c∈U∨((G c=none∧B c=none)∧∀i,c∉fp i))→∃fp',Rw K μ Ge B G (bo H b (.lst ys')) σ (ρ.set j (some (.lst (l.set m (.lst row'))))) fp':=by
 have hnd:=R.nd j;rw[hf]at hnd;have J:a∈fp j:=by rw[hf];exact mem_cons_self ..
 have inT:∀b∈T,b∈fp j:=fun b hb=>by rw[hf];exact cR hb
 refine cps fun PP kP=>?_;obtain⟨haT,hTn⟩:=nodup_cons.mp hnd;refine pH (h.at hl) fun w A L Q g1 g2 g3 g4=>?_;obtain⟨sL,sA,sR⟩:=AllW.subs (P:=Ow K G H (n+1)) (ds:=l) (vs:=xs) g2;refine ja (g3) fun b ys U e1 e2 e3 h5=>?_;subst e1;have hT:=hTn;rw[g2]at hT;obtain⟨h1,h2,h3⟩:=nodup_append.mp hT;obtain⟨h4,hA,h6⟩:=nodup_append.mp h1;refine kP ?_;clear kP PP;have hA0:=hA;rw[e3]at hA;have I:b∈A:=by rw[e3];exact mem_cons_self ..
 have hUA:∀c∈U,c∈A:=fun c r=>by rw[e3];exact cR r
 have hbj:b∈fp j:=inT b (sA b I);refine⟨b,ys,U,g1,e2,h5,(nodup_cons.mp hA).2,(nodup_cons.mp hA).1,hbj,fun c r=>inT c (sA c (hUA c r)),fun U' o nd hU=>?_⟩;have hab:a≠b:=fun z=>haT (z ▸ sA b I);have nbL:∀c,c∈L∨c∈Q→c≠b:=fun c r z=>by
  subst z
  rcases r with y|y
  ·exact h6 c y c I rfl
  ·exact h3 c (mem_append_right _ I) c y rfl
 have hset:xs.set m (.ref b)=xs:=by
  apply ext_getElem?;intro k;by_cases hk:k=m
  ·subst hk;rw[getElem?_set_self (cU g1).1,g1]
  ·rw[getElem?_set_ne (Ne.symm hk)]
 have big:=g4 (Ow K G (bo H b (.lst ys')) (n+1)) (fun d v C hC z=>z.mono (.refl _) fun c r u e=>by rw[ak (nbL c (hC c r))];exact e) (.lst row') (.ref b) (b::U') (jb b ys' U' rfl au rfl o);rw[hset]at big;have ndA':(b::U').Nodup:=nodup_cons.mpr ⟨fun z=>by
  rcases hU b z with y|y
  ·exact(nodup_cons.mp hA).1 y
  ·exact y.2 j hbj,nd⟩
 have okA':∀c∈b::U',c∈A∨((G c=none∧B c=none)∧∀i,c∉fp i):=fun c r=>by
  rcases mem_cons.mp r with z|z
  ·subst z;exact .inl I
  ·exact(hU c z).imp (hUA c) id
 have okT:∀c∈L ++ (b::U') ++ Q,c∈T∨((G c=none∧B c=none)∧∀i,c∉fp i):=fun c r=>by
  rcases mem_append.mp r with z|z
  ·rcases mem_append.mp z with y|y
   ·exact .inl (sL c y)
   ·exact(okA' c y).imp (sA c) id
  ·exact .inl (sR c z)
 refine⟨_,R.write hbj hv (by rw[hm];exact(jb a xs (L ++ (b::U') ++ Q) rfl (by rw[ak hab];exact hH) rfl big)) (nodup_cons.mpr ⟨fun z=>?_,jV hT ndA' fun c r=>(okA' c r).imp id fun y=>⟨fun z=>y.2 j (inT c (sL c z)),fun z=>y.2 j (inT c (sR c z))⟩⟩) (fun c r=>?_) fun i hi c r hci=>?_⟩
 ·rcases okT a z with y|y
  ·exact haT y
  ·exact y.2 j J
 ·rcases mem_cons.mp r with z|z
  ·subst z;exact⟨R.gf j _ J,R.ob j _ J⟩
  ·rcases okT c z with y|y
   ·exact⟨R.gf j _ (inT c y),R.ob j _ (inT c y)⟩
   ·exact y.1
 ·rcases mem_cons.mp r with z|z
  ·subst z;exact hi (R.dj i j _ hci J)
  ·rcases okT c z with y|y
   ·exact hi (R.dj i j _ hci (inT c y))
   ·exact y.2 i hci
theorem Rw.freshOf {H0 G0:Hp}{S:List Addr}(R:Rw K μ Ge B G H σ ρ fp)(w:New H0 G S)(R0:Rw K μ Ge B G0 H0 σ ρ fp):yS B G fp S:=fun b hb=>⟨⟨(w.2 b hb).2,R0.bh.free (w.2 b hb).1⟩,fun i=>R0.apart w i b hb⟩
end
section
variable{X:Cx}{E:XK}{μ:List Nat}{r n:Nat}
noncomputable def nW (j:Nat)(f:DS→Res D):DS→Out:=fun ρ=>match ρ[j]? with
 |some (some (.lst l))=>(f ρ).out fun d=>if aS l.length=true then .nx (ρ.set j (some (.lst (l ++ [d])))) else .bad
 |_=>.bad
theorem jv {m:Nat}(h:aS m=true):m<sizeLine:=by
 have h6:sizeLine=16777216:=sizeLine_eq;have h7:m≤100000:=of_decide_eq_true h;omega
theorem mw {j:Nat}{x:Str}{e:Expr}{px apos cpos pos:Pos}{f:DS→Res D}(hm:μ.getD j 0=n+1)(hN:X.N[j]?=some x)(hv:yP X.env.scope x)(h:PZ X E μ n e f)
  (hd:(x==("__debug__" :Str))=false:=by decide) (hcd:(x==("__classdict__" :Str))=false:=by decide)
  (hs:starEach [e] X.env=(false,eval e X.env)::starEach [] X.env:=by rfl)
  (hbase:attributeBase (.Name x px) "append" X.env (eval (.Name x px) X.env)=eval (.Name x px) X.env:=by rfl)
  (hfew:((backTo cpos (starEach [e] X.env)).all (fun x=> !x.1)&&(backToKw cpos (keywordEach [] X.env)).all (fun x=>x.1.isSome)&&decide (([e].length+([]:List Keyword).length+if ([]:List Keyword).isEmpty=true then 0 else 1)<30))=true:=by rfl)
  (hline:(apos.endLine==cpos.line)=true:=by rfl)
  (hsw:swapsWith (.Call (.Attribute (.Name x px) "append" apos) [e] [] cpos) none pos.line X.env=pure false:=by rfl) :
  mX X E μ r (.Expr (.Call (.Attribute (.Name x px) "append" apos) [e] [] cpos) pos) (nW j f):=by
 intro pins s σ Ge B G H ρ fp I R ho;have hp:=t9 (apos:=apos) (cpos:=cpos) (r:=eX) PySem.F.plainAttrs_list PySem.F.slot_list_append PySem.F.type_list_append (show DV X "list.append" eX from jU) (iQ (pos:=px) hN hv hd hcd) (dG (ua h) jD hs) hbase hfew hline hs rfl;have hslot:∃l,ρ[j]?=some (some (.lst l)):=by
  unfold nW at ho;split at ho
  ·rename_i l q;exact⟨l,q⟩
  ·exact ho.elim
 obtain⟨l,hr⟩:=hslot;have eo:nW j f ρ=(f ρ).out fun d=>if aS l.length=true then .nx (ρ.set j (some (.lst (l ++ [d])))) else .bad:=by
  unfold nW;rw[hr]
 rw[eo]at ho ⊢;refine ja (R.top hr hm) fun a xs T h1 h2 h3 h4=>?_;refine aO (gr hp hsw pins s σ H {nx:=fun σ' H'=>∃d v G1 H1 S,f ρ= .ok d∧aS l.length=true∧σ'=σ∧Rw X.K μ Ge B G1 H1 σ ρ fp∧Same G G1∧Same H H1∧Ow X.K G1 H1 n d v S∧New H G1 S∧H'=bo H1 a (.lst (xs ++ [v])),bk:=fun _ _=>False,ct:=fun _ _=>False,rt:=fun _ _=>False} I ?_) fun fl s1 J=>?_
 ·refine(gW _ h1 (.inl ⟨rfl,xs,.inl (.inl h2)⟩) ⟨Ge,B,G,ρ,fp,R,ho.res,fun d ed v G1 H1 S R1 sg sh o w=>?_⟩);have k:=ho.res2 ed (Same.refl B);by_cases hc:aS l.length=true
  ·exact⟨a,xs,v,rfl,rfl,sh _ _ h2,by rw[←h4.length];exact jv hc,d,v,G1,H1,S,ed,hc,rfl,R1,sg,sh,o,w,rfl⟩
  ·rw[if_neg hc]at k;exact k.elim
 ·cases fl with
  |next=>
   obtain⟨σ',H',I',d,v,G1,H1,S,q,hlk,e2,R1,sg,sh,o,w,e3⟩:=J;subst e2 e3;refine ja (R1.top hr hm) fun a2 xs2 T2 g1 g2 g3 g4=>?_;rw[h1]at g1;cases g1;rw[sh _ _ h2]at g2;cases g2;refine⟨_,_,_,_,_,?_,I',R1.app1 hm h1 (sh _ _ h2) g3 g4 o w.1 (R1.freshOf w R),sg⟩;rw[bM q,if_pos hlk]
  |brk=>obtain⟨_,_,_,J⟩:=J;exact J.elim
  |cont=>obtain⟨_,_,_,J⟩:=J;exact J.elim
  |ret u=>obtain⟨_,_,_,_,_,J⟩:=J;exact J.elim
noncomputable def r6 (j:Nat)(l:List D)(ρ:DS)(d i:D):Out:=match i with
 |.int k=>(match tK l.length k with|some m=>.nx (ρ.set j (some (.lst (l.set m d))))|none=>.bad)
 |_=>.bad
noncomputable def pj (j:Nat)(fi f:DS→Res D):DS→Out:=fun ρ=>match ρ[j]? with
 |some (some (.lst l))=>(f ρ).out fun d=>(fi ρ).out fun i=>r6 j l ρ d i
 |_=>.bad
theorem New.keep {H G1 H1 G3 H3:Hp}{fp:Nat→List Addr}{S:List Addr}(w:New H G1 S)(hc:∀a∈S,∃o,H1 a=some o∧¬oH o)(ha:∀i,∀a∈S,a∉fp i)(x:Ext (pX fp G1 H1) H1 G3 H3):New H (ql (rB fp) G3) S:=⟨w.1,fun a h=>⟨(w.2 a h).1,by
 cases q:ql (rB fp) G3 a with
 |none=>rfl
 |some o=>
  obtain⟨q1,q2⟩:=lu q
  rcases x.nw a o q2 with z|z
  ·rw[nQ q1,(w.2 a h).2]at z;cases z
  ·obtain⟨o',h',hk⟩:=hc a h
   rcases z with z|z
   ·rw[z]at h';cases h'
   ·have h2:=x.gh a o q2;rw[x.hh a _ h']at h2;cases h2;exact(hk z).elim⟩⟩
theorem rZ {j:Nat}{x:Str}{i e:Expr}{px tpos pos:Pos}{fi f:DS→Res D}(hm:μ.getD j 0=n+1)(hN:X.N[j]?=some x)(hv:yP X.env.scope x)(hi:PD X E i fi)(h:PZ X E μ n e f)
  (hd:(x==("__debug__" :Str))=false:=by decide) (hcd:(x==("__classdict__" :Str))=false:=by decide)
  (ha:∀v,assign (.Subscript (.Name x px) i tpos) X.env v=(do
   let ov ←holding [v] (eval (.Name x px) X.env)
   let iv ←holding [v,ov] (eval i X.env)
   standAt tpos
   holding [v,ov,iv] (setItem ov iv v)
   release [v,ov,iv] []):=by intro _;rfl)
  (hs:swapsWithSole [.Subscript (.Name x px) i tpos] e pos.line X.env=pure false:=by rfl) (hw:swappedStores [.Subscript (.Name x px) i tpos] e X.env=pure none:=by rfl)
  (ho1:(assignEach [.Subscript (.Name x px) i tpos] X.env).map (·.2)=[assign (.Subscript (.Name x px) i tpos) X.env]:=by rfl) :
  mX X E μ r (.Assign [.Subscript (.Name x px) i tpos] e pos) (pj j fi f):=by
 intro pins s σ Ge B G H p fp I R ho;have hslot:∃l,p[j]?=some (some (.lst l)):=by
  unfold pj at ho;split at ho
  ·rename_i l q;exact⟨l,q⟩
  ·exact ho.elim
 obtain⟨l,hr⟩:=hslot;have eo:pj j fi f p=(f p).out fun d=>(fi p).out fun i=>r6 j l p d i:=by
  unfold pj;rw[hr]
 rw[eo]at ho ⊢;have hp:=Gv (pos:=pos) (ua h) (Gn (pos:=tpos) (iQ (pos:=px) hN hv hd hcd) (fS hi) AW ha) hs hw ho1;refine aO (hp pins s σ H {nx:=fun σ' H'=>∃W G' V,((f p).out fun d=>(fi p).out fun i=>r6 j l p d i)= .nx W∧σ'=σ∧Rw X.K μ Ge B G' H' σ W V∧Same G G',bk:=fun _ _=>False,ct:=fun _ _=>False,rt:=fun _ _=>False} I ⟨Ge,B,G,p,fp,R,ho.res,fun d ed v G1 H1 S R1 sg sh o w=>?_⟩) fun fl s1 J=>?_
 ·have k:=ho.res2 ed (Same.refl B);refine ja (R1.top hr hm) fun a xs T h1 h2 h3 h4=>?_;refine⟨_,h1,pX fp G1 H1,p,R1.vh,R1.ro,k.res.le R1.bh,fun di ei vi G3 H3 x3 ri=>?_⟩;have kk:=k.res2 ei (Same.refl B);have e0:((f p).out fun d=>(fi p).out fun i=>r6 j l p d i)=r6 j l p d di:=by rw[bM ed,bM ei]
  unfold r6 at kk;split at kk
  ·rename_i k0;rw[rep_int]at ri;subst ri;cases q:tK l.length k0 with
   |none=>rw[q]at kk;exact kk.elim
   |some m=>
    have e0:=e0.trans (show r6 j l p d (.int k0)= .nx (p.set j (some (.lst (l.set m d)))) by unfold r6;dsimp only;rw[q]);have hml:m<l.length:=(rG q).2.1;have R3:=R1.grow x3;refine ja (R3.top hr hm) fun a2 xs2 T2 g1 g2 g3 g4=>?_;rw[h1]at g1;cases g1;rw[x3.hh _ _ h2]at g2;cases g2;have hc:∀b∈S,∃u,H1 b=some u∧¬oH u:=fun b hb=>let ⟨u,e,c⟩:=o.cell b hb;⟨u,e,c.nokey⟩
    have w3:=w.keep hc (fun i b hb=>R.apart w i b hb) x3;obtain⟨V,R4⟩:=R3.set1 (d:=d) (v:=v) hm h1 (x3.hh _ _ h2) g3 g4 (cz hml) (o.mono (R1.gg x3) fun b _ u e=>x3.hh b u e) w.1 (R3.freshOf w3 R);exact⟨a,xs,k0,m,rfl,rfl,x3.hh _ _ h2,by rw[←h4.length];exact q,_,_,V,e0,rfl,R4,sg.trans (R1.gg x3)⟩
  ·exact kk.elim
 ·cases fl with
  |next=>
   obtain⟨σ',H',I',W,G',V,e1,e2,R',sg⟩:=J;subst e2;exact⟨W,_,G',H',V,e1,I',R',sg⟩
  |brk=>obtain⟨_,_,_,J⟩:=J;exact J.elim
  |cont=>obtain⟨_,_,_,J⟩:=J;exact J.elim
  |ret u=>obtain⟨_,_,_,_,_,J⟩:=J;exact J.elim
noncomputable def r9 (j:Nat)(l:List D)(ρ:DS)(d i:D):Out:=match i with
 |.int k=>(match tK l.length k with
  |some m=>(match l[m]? with
   |some (.lst row)=>if aS row.length=true then .nx (ρ.set j (some (.lst (l.set m (.lst (row ++ [d])))))) else .bad
   |_=>.bad)
  |none=>.bad)
 |_=>.bad
noncomputable def sf (j:Nat)(fi f:DS→Res D):DS→Out:=fun ρ=>match ρ[j]? with
 |some (some (.lst l))=>(fi ρ).out fun i=>(f ρ).out fun d=>r9 j l ρ d i
 |_=>.bad
theorem qy {j:Nat}{x:Str}{i e:Expr}{px spos apos cpos pos:Pos}{fi f:DS→Res D}(hm:μ.getD j 0=n+2)(hN:X.N[j]?=some x)(hv:yP X.env.scope x)(hi:PD X E i fi)(h:PZ X E μ n e f)(hex:∀ρ c,f ρ≠ .exc c)
  (hd:(x==("__debug__" :Str))=false:=by decide) (hcd:(x==("__classdict__" :Str))=false:=by decide)
  (hpi:qN i:=by intro _ _;rfl)
  (hs:starEach [e] X.env=(false,eval e X.env)::starEach [] X.env:=by rfl)
  (hbase:attributeBase (.Subscript (.Name x px) i spos) "append" X.env (eval (.Subscript (.Name x px) i spos) X.env)=eval (.Subscript (.Name x px) i spos) X.env:=by rfl)
  (hfew:((backTo cpos (starEach [e] X.env)).all (fun x=> !x.1)&&(backToKw cpos (keywordEach [] X.env)).all (fun x=>x.1.isSome)&&decide (([e].length+([]:List Keyword).length+if ([]:List Keyword).isEmpty=true then 0 else 1)<30))=true:=by rfl)
  (hline:(apos.endLine==cpos.line)=true:=by rfl)
  (hsw:swapsWith (.Call (.Attribute (.Subscript (.Name x px) i spos) "append" apos) [e] [] cpos) none pos.line X.env=pure false:=by rfl) :
  mX X E μ r (.Expr (.Call (.Attribute (.Subscript (.Name x px) i spos) "append" apos) [e] [] cpos) pos) (sf j fi f):=by
 intro pins s σ Ge B G H ρ fp I R ho;have hp:=t9 (apos:=apos) (cpos:=cpos) (r:=eX) PySem.F.plainAttrs_list PySem.F.slot_list_append PySem.F.type_list_append (show DV X "list.append" eX from jU) (Em (pos:=spos) ix_list (iQ (pos:=px) hN hv hd hcd) (fS hi) hpi) (dG (ua h) jD hs) hbase hfew hline hs rfl;have hslot:∃l,ρ[j]?=some (some (.lst l)):=by
  unfold sf at ho;split at ho
  ·rename_i l q;exact⟨l,q⟩
  ·exact ho.elim
 obtain⟨l,hr⟩:=hslot;have eo:sf j fi f ρ=(fi ρ).out fun i=>(f ρ).out fun d=>r9 j l ρ d i:=by
  unfold sf;rw[hr]
 rw[eo]at ho ⊢;refine ja (R.top hr hm) fun a xs T h1 h2 h3 h4=>?_;refine aO (gr hp hsw pins s σ H {nx:=fun σ' H'=>∃W G' V,((fi ρ).out fun i=>(f ρ).out fun d=>r9 j l ρ d i)= .nx W∧σ'=σ∧Rw X.K μ Ge B G' H' σ W V∧Same G G',bk:=fun _ _=>False,ct:=fun _ _=>False,rt:=fun _ _=>False} I ⟨_,h1,pX fp G H,ρ,R.vh,R.ro,ho.res.le R.bh,fun di ei vi G1 H1 x1 ri=>?_⟩) fun fl s1 O=>?_
 ·have k:=ho.res2 ei (Same.refl B);have R1:=R.grow x1;have hfd:∃d,f ρ= .ok d:=by
   cases q:f ρ with
   |ok d=>exact⟨d,rfl⟩
   |exc c=>exact absurd q (hex ρ c)
   |bad=>rw[q]at k;exact k.elim
  obtain⟨d0,ed0⟩:=hfd;have L:=k.res2 ed0 (Same.refl B);have e0:((fi ρ).out fun i=>(f ρ).out fun d=>r9 j l ρ d i)=r9 j l ρ d0 di:=by rw[bM ei,bM ed0]
  unfold r9 at L;split at L
  ·rename_i k0;rw[rep_int]at ri;subst ri;cases q:tK l.length k0 with
   |none=>rw[q]at L;exact L.elim
   |some m=>
    rw[q]at L;dsimp only at L;split at L
    ·rename_i row M;by_cases hc:aS row.length=true
     ·have e0:=e0.trans (show r9 j l ρ d0 (.int k0)= .nx (ρ.set j (some (.lst (l.set m (.lst (row ++ [d0])))))) by unfold r9;dsimp only;rw[q];dsimp only;rw[M];exact if_pos hc);refine IN (R.row (row':=[]) (ys':=[]) hm h1 h2 h3 h4 M) fun b ys U c1 c2 c3 c4 c5 c6 c7 _=>?_;refine(Cz a xs k0 (.ref b) rfl rfl (.inl (.inl (x1.hh _ _ h2))) (by unfold L2.atI;rw[←h4.length,q];exact c1) (.inl ⟨rfl,ys,.inl (.inl (x1.hh _ _ c2))⟩) ⟨Ge,B,_,ρ,fp,R1,k.res,fun d ed v G2 H2 S R2 sg sh o w=>?_⟩);rw[ed0]at ed;cases ed;refine(nC b ys v rfl rfl (sh _ _ (x1.hh _ _ c2)) (by rw[←c3.length];exact jv hc) ?_);refine ja (R2.top hr hm) fun a2 xs2 T2 g1 g2 g3 g4=>?_;rw[h1]at g1;cases g1;rw[sh _ _ (x1.hh _ _ h2)]at g2;cases g2;refine IN (R2.row (row':=row ++ [d0]) (ys':=ys ++ [v]) hm h1 (sh _ _ (x1.hh _ _ h2)) g3 g4 M) fun b2 ys2 U2 p1 p2 p3 p4 p5 p6 p7 p8=>?_;rw[c1]at p1;cases p1;rw[sh _ _ (x1.hh _ _ c2)]at p2;cases p2;have fr:=R2.freshOf w R1;have neU:∀c,c∈U2→c≠b:=fun c J z=>p5 (z ▸ J);have neS:∀c,c∈S→c≠b:=fun c J z=>(fr c J).2 j (z ▸ p6);obtain⟨V,R3⟩:=p8 (U2 ++ S) (.append (p3.mono fun d v A _ hA z=>z.mono (.refl _) fun c J u e=>by rw[ak (neU c (hA c J))];exact e) (.one (o.mono (.refl _) fun c J u e=>by rw[ak (neS c J)];exact e))) (nodup_append.mpr ⟨p4,w.1,fun c J c2 hc2 e=>by subst e;exact(fr c hc2).2 j (p7 c J)⟩) (fun c J=>(mem_append.mp J).imp id (fr c));exact(jb _ _ V e0 rfl R3 ((R.gg x1).trans sg))
     ·rw[if_neg hc]at L;exact L.elim
    ·exact L.elim
  ·exact L.elim
 ·cases fl with
  |next=>
   obtain⟨σ',H',I',W,G',V,e1,e2,R',sg⟩:=O;subst e2;exact⟨W,_,G',H',V,e1,I',R',sg⟩
  |brk=>obtain⟨_,_,_,O⟩:=O;exact O.elim
  |cont=>obtain⟨_,_,_,O⟩:=O;exact O.elim
  |ret u=>obtain⟨_,_,_,_,_,O⟩:=O;exact O.elim
end
section
variable{prog:Program}{w:World}{A:Around}{R:Result→Shared→Prop}{I S:Addr}{fp wr:List Addr}{n:Nat}{P:Nat→Value→Prop}{St:Nat→Heap→Prop}{C:Heap→Prop}
noncomputable def Eu (prog:Program)(w:World)(A:Around)(C:Heap→Prop)(P:Nat→Value→Prop)(bt:Nat→Nat→Bool):Prop:=
 ∀i j vi vj (s:Shared) (Q:Value→Shared→Prop) (E:Value→Shared→Prop),C s.heap→P i vi→P j vj→Q (.bool (bt i j)) s→wpAny (model prog w) A (richCompare .Lt vi vj) Q E s
noncomputable def DU (wr:List Addr)(S:Addr)(C:Heap→Prop):Prop:=∀h h',C h→(∀b o,b∉wr→b≠S→h.get? b=some o→h'.get? b=some o)→C h'
theorem z_ (W:Walks prog w A.in1 I fp wr n P St)(bt:Nat→Nat→Bool)(hcmp:Eu prog w A.in1 C P bt)(hC:DU wr S C)(hSf:S∉fp) :
  ∀(k j:Nat) (s:Shared) (vb:Value) (c:Nat),n-(j+1)=k→j+1≤n→St (j+1) s.heap→C s.heap→P (argBest bt j) vb→
  s.heap.get? S=some {cls:=.type "list",dict:=none,data:=.seq #[vb,vb] c,slots:= #[]}→
  (∀v h' tk,P (argBest bt (n-1)) v→(∀b o,b∉wr→b≠S→s.heap.get? b=some o→h'.get? b=some o)→R (.ok (.ret v)) {s with heap:=h',toks:=tk})→
  codeAny (model prog w) A (.builtin "min.loop" ⟨[.ref I,.none,.ref S],[]⟩) R s:=by
 have hSw:S∉wr:=fun h=>hSf (W.sub _ h);have U:(toString "min" ++ toString ".loop" :String)= "min.loop" :=by decide
 intro k
 induction k with
 |zero=>
  intro j s vb c hk hj hst hc V hS hR;have hin:j+1=n:=by omega
  refine codeAny_builtin PySem.F.entry_min_loop ?_;rw[Around.under_plainId PySem.F.plain_min_loop _];show wpAny _ A.in1 (seqItems? (.ref S) >>= _) _ _ s;refine wpAny_bind (wpAny_seqItems hS rfl ?_);show wpAny _ A.in1 (tryCatch (pyNext (.ref I)) _ >>= _) _ _ s;refine wpAny_bind (wpAny_tryCatch (W.done s _ _ (hin ▸ hst) fun h' tk O=>?_));have hS':=O S _ hSw hS;show wpAny _ A.in1 (updateSeq S (fun _=> #[]) >>= _) _ _ _;refine wpAny_bind ?_;refine wpAny_updateSeq hS' rfl (wpAny_bind (wpAny_letGo (wpAny_pure ?_)));refine hR vb _ tk (by rw[←hin];exact V) fun b o M N e=>(Heap.get?_update_other _ _ (Ne.symm N)).trans (O b o M e)
 |succ k ih=>
  intro j s vb c hk hj hst hc V hS hR;have hlt:j+1<n:=by omega
  refine codeAny_builtin PySem.F.entry_min_loop ?_;rw[Around.under_plainId PySem.F.plain_min_loop _];show wpAny _ A.in1 (seqItems? (.ref S) >>= _) _ _ s;refine wpAny_bind (wpAny_seqItems hS rfl ?_);show wpAny _ A.in1 (tryCatch (pyNext (.ref I)) _ >>= _) _ _ s;refine wpAny_bind (wpAny_tryCatch (W.item (j+1) s _ _ hlt hst fun v h' tk hP hst' O=>?_));have hS':=O S _ hSw hS;have hc':C h':=hC _ _ hc fun b o M _ e=>O b o M e;show wpAny _ A.in1 (tryCatch (holding [v,v] (richCompare .Lt v vb >>= _)) _ >>= _) _ _ _;refine wpAny_bind (wpAny_tryCatch (wpAny_holding (wpAny_bind (hcmp (j+1) (argBest bt j) v vb {s with heap:=h',toks:=tk} _ _ hc' hP V ?_))))
  refine wpAny_bind (wpAny_holding (wpAny_truthy_bool ?_));refine wpAny_bind (wpAny_letGo (wpAny_pure ?_));cases hb:bt (j+1) (argBest bt j) with
  |true=>
   simp only[if_true];refine wpAny_bind ?_;refine wpAny_updateSeq hS' rfl (wpAny_bind (wpAny_letGo ?_));rw[U];refine wpAny_pure ⟨plainId_quiet PySem.F.plain_min_loop _,ih (j+1) _ v _ (by omega) hlt (W.frame _ _ _ hst' fun b hbf o e=>?_) (hC _ _ hc' fun b o _ N e=>(Heap.get?_update_other _ _ (Ne.symm N)).trans e) (by simp only[argBest,hb,if_true];exact hP) (Heap.get?_update_self _ hS' rfl)
    fun v' h'' Q hP' T=>?_⟩
   ·exact(Heap.get?_update_other _ _ (fun h:S=b=>hSf (by rw[h];exact hbf))).trans e
   ·exact hR v' h'' Q hP' fun b o M N e=>T b o M N ((Heap.get?_update_other _ _ (Ne.symm N)).trans (O b o M e))
  |false=>
   simp only[false_eq_true,if_false];refine wpAny_bind (wpAny_letGo ?_);rw[U];refine wpAny_pure ⟨plainId_quiet PySem.F.plain_min_loop _,ih (j+1) _ vb c (by omega) hlt hst' hc' (by simp only[argBest,hb,false_eq_true,if_false];exact V) hS' fun v' h'' Q hP' T=>?_⟩;exact hR v' h'' Q hP' fun b o M N e=>T b o M N (O b o M e)
theorem ye (W:Walks prog w A.in1 I fp wr n P St)(bt:Nat→Nat→Bool)(hcmp:Eu prog w A.in1 C P bt)(hC:DU wr S C)(hSf:S∉fp)(hn:0<n){s:Shared}{c:Nat}(hst:St 0 s.heap)(hc:C s.heap)
  (hS:s.heap.get? S=some {cls:=.type "list",dict:=none,data:=.seq #[] c,slots:= #[]})
  (hR:∀v h' tk,P (argBest bt (n-1)) v→(∀b o,b∉wr→b≠S→s.heap.get? b=some o→h'.get? b=some o)→R (.ok (.ret v)) {s with heap:=h',toks:=tk}) :
  codeAny (model prog w) A (.builtin "min.loop" ⟨[.ref I,.none,.ref S],[]⟩) R s:=by
 have hSw:S∉wr:=fun h=>hSf (W.sub _ h);have hname:(toString "min" ++ toString ".loop" :String)= "min.loop" :=by decide
 refine codeAny_builtin PySem.F.entry_min_loop ?_;rw[Around.under_plainId PySem.F.plain_min_loop _];show wpAny _ A.in1 (seqItems? (.ref S) >>= _) _ _ s;refine wpAny_bind (wpAny_seqItems hS rfl ?_);show wpAny _ A.in1 (tryCatch (pyNext (.ref I)) _ >>= _) _ _ s;refine wpAny_bind (wpAny_tryCatch (W.item 0 s _ _ hn hst fun v h' tk hP hst' hk'=>?_));have hS':=hk' S _ hSw hS;have hc':C h':=hC _ _ hc fun b o M _ e=>hk' b o M e;show wpAny _ A.in1 (updateSeq S (fun _=> #[v,v]) >>= _) _ _ _;refine wpAny_bind ?_;refine wpAny_updateSeq hS' rfl ?_;rw[hname];refine wpAny_pure ⟨plainId_quiet PySem.F.plain_min_loop _,z_ W bt hcmp hC hSf _ 0 _ v _ rfl hn (W.frame _ _ _ hst' fun b hbf o e=>?_) (hC _ _ hc' fun b o _ N e=>(Heap.get?_update_other _ _ (Ne.symm N)).trans e) hP (Heap.get?_update_self _ hS' rfl) fun v' h'' tk'' hP' hk''=>?_⟩
 ·exact(Heap.get?_update_other _ _ (fun h:S=b=>hSf (by rw[h];exact hbf))).trans e
 ·exact hR v' h'' tk'' hP' fun b o M N e=>hk'' b o M N ((Heap.get?_update_other _ _ (Ne.symm N)).trans (hk' b o M e))
end
section
variable{prog:Program}{w:World}{A:Around}{E:Value→Shared→Prop}{s:Shared}
theorem Ab {l:Addr}{its:Array Value}{C:Heap→Prop}{bt:Nat→Nat→Bool}{Q:Value→Shared→Prop}(hh:A.handled=none)(hl:s.heap.IsList l its)(hn:0<its.size)(hcmp:Eu prog w A.in1 C (fun i v=>its[i]?=some v) bt)(hc:C s.heap)
  (hC:∀h h',C h→(∀b o,b<s.heap.objs.size→h.get? b=some o→h'.get? b=some o)→C h')
  (h:∀v h' tk,its[argBest bt (its.size-1)]?=some v→(∀b o,s.heap.get? b=some o→h'.get? b=some o)→Q v {s with heap:=h',toks:=tk}) :
  wpAny (model prog w) A (call (.builtin "min") [.ref l]) Q E s:=by
 have hname:(toString "min" ++ toString ".loop" :String)= "min.loop" :=by decide
 refine call_function_tree PySem.F.kind_min PySem.F.plain_min PySem.F.entry_min (PySem.F.args_min1 _) ?_;show wpAny _ A.in1 (Builtin.Builtins.bindParams "min" ["key","default"] 0 ⟨[],[]⟩ >>= _) _ _ s;refine wpAny_bind (wpAny_of_eq (show Builtin.Builtins.bindParams "min" ["key","default"] 0 ⟨[],[]⟩=pure [none,none] from rfl) ?_);refine wpAny_bind (wpAny_pure ?_);have hlt:l<s.heap.objs.size:=by obtain⟨o,e,_⟩:=hl;exact Heap.lt_size e
 have hne:l≠s.heap.objs.size:=ne_of_lt hlt;have hz:(s.heap.push {cls:=.type "list_iterator",data:=.fields #[.ref l,.int 0 0]}).objs.size=s.heap.objs.size+1:=Heap.size_push ..;refine wpAny_bind (wpAny_pyIter_list hl ?_);refine wpAny_bind (wpAny_newObj_type ?_);rw[hname];have W:=Walks.list (prog:=prog) (w:=w) (A:=A.in1) hh s.heap.objs.size l hne its;have old:∀b o,s.heap.get? b=some o→b<s.heap.objs.size:=fun b o e=>Heap.lt_size e;refine wpAny_pure ⟨plainId_quiet PySem.F.plain_min_loop _,ye (C:=C) W bt hcmp (fun h1 h2 c k=>hC h1 h2 c fun b o hb e=>k b o (fun z=>?_) (fun z=>?_) e) (fun z=>?_) hn ?_ (hC _ _ hc fun b o _ e=>Heap.get?_push_of_some _ (Heap.get?_push_of_some _ e)) (Heap.get?_push_size _ rfl) fun v h2 tk hv hk=>?_⟩
 ·have z:b=s.heap.objs.size:=by simpa using z
  rw[z]at hb;exact absurd hb (lt_irrefl _)
 ·rw[z]at hb;have hb:(s.heap.push {cls:=.type "list_iterator",data:=.fields #[.ref l,.int 0 0]}).objs.size<s.heap.objs.size:=hb;rw[hz]at hb;exact absurd hb (Nat.not_lt_of_le (le_succ _))
 ·have z:(s.heap.push {cls:=.type "list_iterator",data:=.fields #[.ref l,.int 0 0]}).objs.size=s.heap.objs.size∨(s.heap.push {cls:=.type "list_iterator",data:=.fields #[.ref l,.int 0 0]}).objs.size=l:=by simpa using z
  rw[hz]at z
  rcases z with z|z
  ·exact absurd z (Nat.succ_ne_self _)
  ·rw[←z]at hlt;exact absurd hlt (Nat.not_lt_of_le (le_succ _))
 ·obtain⟨o,e,r⟩:=hl;exact(oC (gW _ (Heap.get?_push_of_some _ (Heap.get?_push_size _ rfl)) rfl rfl) o (Heap.get?_push_of_some _ (Heap.get?_push_of_some _ e)) r)
 ·refine h v h2 tk hv fun b o e=>hk b o (fun z=>?_) (fun z=>?_) (Heap.get?_push_of_some _ (Heap.get?_push_of_some _ e))
  ·have z:b=s.heap.objs.size:=by simpa using z
   exact absurd (old b o e) (by rw[z];exact lt_irrefl _)
  ·have:=old b o e;rw[z]at this;have this:(s.heap.push {cls:=.type "list_iterator",data:=.fields #[.ref l,.int 0 0]}).objs.size<s.heap.objs.size:=this;rw[hz]at this;exact absurd this (Nat.not_lt_of_le (le_succ _))
end
noncomputable def GK:D→Option (List Int)
 |.tup l=>allInts l
 |_=>none
noncomputable def gj:List D→Option (List (List Int))
 | []=>some []
 |d::ds=>match GK d,gj ds with
  |some t,some ts=>some (t::ts)
  |_,_=>none
theorem nT:∀{l:List D} {ts:List (List Int)},gj l=some ts→l=ts.map fun t=>.tup (t.map D.int):=by
 intro l_
 induction l_ with
 |nil=>
  rintro ts h;exact by unfold gj at h;cases h;rfl
 |cons d ds ihh=>
  rintro ts h;unfold gj at h;split at h
  ·rename_i t us e1 e2;cases h;rw[map_cons,←ihh e2];unfold GK at e1;split at e1
   ·rename_i l;rw[iA e1]
   ·cases e1
  ·cases h
theorem je:∀(ts:List (List Int)),gj (ts.map fun t=>.tup (t.map D.int))=some ts:=by
 intro l_
 induction l_ with
 |nil=>
  exact rfl
 |cons t ts ihh=>
  rw[map_cons];unfold gj;rw[ihh];unfold GK;dsimp only;rw[gi]
noncomputable def gk (t:List Int)(ts:List (List Int)):List Int:=ts.foldl (fun b u=>if HT.aK u b=true then u else b) t
noncomputable def hV:List D→Res D
 | [.lst l]=>match gj l with|some (t::ts)=>.ok (.tup ((gk t ts).map D.int))|_=>.bad
 |_=>.bad
theorem v_ (ts:List (List Int))(t:List Int):∀k,k≤ts.length→(t::ts)[argBest (fun i j=>HT.aK ((t::ts).getD i []) ((t::ts).getD j [])) k]?=some (gk t (ts.take k))
 |0,_=>rfl
 |k+1,h=>by
  have ih:=v_ ts t k (by omega);have hk:k<ts.length:=h;have e1:(t::ts).getD (k+1) []=ts[k]:=by simp[List.getD,hk]
  have e2:(t::ts).getD (argBest (fun i j=>HT.aK ((t::ts).getD i []) ((t::ts).getD j [])) k) []=gk t (ts.take k):=by
   rw[getD_eq_getElem?_getD,ih];rfl
  have e3:ts.take (k+1)=ts.take k ++ [ts[k]]:=by rw[List.take_add_one];simp[hk]
  have e4:gk t (ts.take (k+1))=if HT.aK ts[k] (gk t (ts.take k))=true then ts[k] else gk t (ts.take k):=by
   rw[e3];unfold gk;rw[foldl_append];rfl
  rw[e4];unfold argBest;rw[e1,e2];by_cases hb:HT.aK ts[k] (gk t (ts.take k))=true
  ·rw[if_pos hb,if_pos hb];simp[hk]
  ·rw[if_neg hb,if_neg hb];exact ih
section
variable{X:Cx}{E:XK}
noncomputable def uM (K:W.Frag)(H:Hp)(vs:List V)(ts:List (List Int)):Prop:=vs.length=ts.length∧∀(i:Nat) (v:V) (t:List Int),vs[i]?=some v→ts[i]?=some t→∃a,v= .ref a∧nk K H a (t.map V.int)
theorem xp (hc:X.calm=true)(hu:X.A.units+64<cLine):eD X (.builtin "min") (fun xs H Q=>∃p vs t ts,xs=[.ref p]∧gC X.K H p vs∧uM X.K H vs (t::ts)∧∀(v:V) (i:Nat),vs[i]?=some v→(t::ts)[i]?=some (gk t ts)→Q v H):=by
 intro pins s σ H xs us Q I r h;refine cps fun PP kP=>?_;refine pH (h) fun p vs t ts hS144 sq hS145 q=>?_;subst hS144;obtain⟨hlen,htup⟩:=hS145;obtain⟨u,rfl,ru⟩:=ke r;refine kP ?_;clear kP PP;cases (show u= .ref p from ru);refine cj (I.list sq) fun L rv pl _=>?_;have hl:=pl.isList;have hil:L.length=ts.length+1:=by rw[←rv.length,hlen];rfl
 have tup:∀i u,L[i]?=some u→∃a items,u= .ref a∧IsTup s.heap a items∧IntsAre items.toList ((t::ts).getD i [])∧a<s.heap.objs.size:=fun i u hu=>by
  have hi:i<L.length:=(cU hu).1;have hi':i<(t::ts).length:=by rw[length_cons];omega
  have hiv:i<vs.length:=by rw[hlen];exact hi'
  obtain⟨u',T,U⟩:=rv.get (cz hiv);rw[hu]at T;cases T;obtain⟨a,ea,sqa⟩:=htup i vs[i] (t::ts)[i] (cz hiv) (cz hi');rw[ea]at U;cases U;refine cj (I.tuple sqa) fun its2 r2 p2 _=>?_;refine(l9 a its2.toArray rfl p2 ?_ (by obtain⟨o,e,_⟩:=p2;exact Heap.lt_size e));have:(t::ts).getD i []=(t::ts)[i]:=by rw[getD_eq_getElem?_getD,cz hi'];rfl
  rw[this];exact fF r2
 refine Ab (C:=fun h=>∀i u,L[i]?=some u→∃a items,u= .ref a∧IsTup h a items∧IntsAre items.toList ((t::ts).getD i [])∧a<s.heap.objs.size) (bt:=fun i j=>HT.aK ((t::ts).getD i []) ((t::ts).getD j [])) (I.ok.hd hc) hl (by simp;omega) (fun i j vi vj s' Q' E' hC hi hj hQ=>?_) tup (fun h h' hC k i u hu=>?_) fun v h' tk hv hk=>?_
 ·have hi:L[i]?=some vi:=by simpa using hi
  have hj:L[j]?=some vj:=by simpa using hj
  refine pG (hC i vi hi) fun a ia e1 p1 n1 _=>?_;refine pG (hC j vj hj) fun b ib e2 p2 n2 _=>?_;subst e1 e2;exact HT.vf p1 p2 n1 n2 (show X.A.in1.units<cLine from Nat.lt_of_le_of_lt (by show X.A.units+1≤X.A.units+64;omega) hu) hQ
 ·refine pG (hC i u hu) fun a ia e1 p1 n1 l1=>?_;obtain⟨o,e,c⟩:=p1;exact(l9 a ia e1 ⟨o,k a o l1 e,c⟩ n1 l1)
 ·have hsz:L.toArray.size-1=ts.length:=by simp;omega
  rw[hsz]at hv;have hb:=v_ ts t ts.length (le_refl _);rw[take_length]at hb;have hv:L[argBest (fun i j=>HT.aK ((t::ts).getD i []) ((t::ts).getD j [])) ts.length]?=some v:=by simpa using hv
  obtain⟨hlt,_⟩:=cU hv;have hltv:argBest (fun i j=>HT.aK ((t::ts).getD i []) ((t::ts).getD j [])) ts.length<vs.length:=by rw[rv.length];exact hlt
  obtain⟨u',T,U⟩:=rv.get (cz hltv);rw[hv]at T;cases T;exact⟨_,H,I.kept hk,U,q _ _ (cz hltv) hb⟩
theorem qF {K:W.Frag}{G H:Hp}(hs:Same G H):∀{ts:List (List Int)} {vs:List V},RepL K G (ts.map fun t=>.tup (t.map D.int)) vs→uM K H vs ts:=by
 intro ts vs rl;refine⟨by rw[←rl.length,length_map],fun i v t hv ht=>?_⟩;obtain⟨w,hw,rw'⟩:=rl.get (i:=i) (d:=.tup (t.map D.int)) (by rw[getElem?_map,ht];rfl);rw[hv]at hw;cases hw;rw[rep_tup]at rw';refine bA (rw') fun a xs hS146 sq rl2=>?_;subst hS146;rw[rl2.ints]at sq;exact⟨a,rfl,hs.seqT sq.sq⟩
theorem wG {e:Expr}{p pos:Pos}{f:DS→Res D}(hu:X.A.units+64<cLine)(hm:X.mg "min" =none)(h:PD X E e f)(hc:X.calm=true:=by rfl)(hg:Gl X "min" :=by rfl)(he:starEach [e] X.env=(false,eval e X.env)::starEach [] X.env:=by rfl):PD X E (.Call (.Name "min" p) [e] [] pos) (fun ρ=>(f ρ).bind fun a=>hV [a]):=by
 have key:PD X E (.Call (.Name "min" p) [e] [] pos) (bL (fun ρ=>(f ρ).bind fun d=>(Res.ok []:Res (List D)).bind fun ds=>.ok (d::ds)) hV):=fR (xp hc hu) (fun G H vs ds Q hs rl ok k=>by
  unfold hV at ok k;split at ok
  ·rename_i l;dsimp only at k;split at ok
   ·rename_i t ts q;rw[q]at k;dsimp only at k;have e:=nT q;refine cps fun PP kP=>?_;subst e;obtain⟨v,r,rfl,rx,r0⟩:=rl.inv;refine kP ?_;clear kP PP;rw[r0.inv0];rw[rep_lst]at rx;obtain⟨pp,xs,rfl,sq,rx⟩:=rx;refine⟨pp,xs,t,ts,rfl,hs.seq sq.sq,qF hs rx,fun v i hv ht=>?_⟩;obtain⟨w,hw,rw'⟩:=rx.get (i:=i) (d:=.tup ((gk t ts).map D.int)) (by rw[getElem?_map,ht];rfl);rw[hv]at hw;cases hw;exact k _ _ G H rfl (.refl hs) rw'
   ·exact ok.elim
  ·exact ok.elim) hg hm y7 (aa h ac he) (by decide) (by decide) he rfl
 intro pins s σ G H ρ I hs hro ho;have e0:∀ρ,bL (fun ρ=>(f ρ).bind fun d=>(Res.ok []:Res (List D)).bind fun ds=>.ok (d::ds)) hV ρ=(f ρ).bind fun a=>hV [a]:=fun ρ=>by
  show Res.bind (Res.bind (f ρ) _) _=_;cases f ρ <;> rfl
 have:=key pins s σ G H ρ I hs hro (by rw[e0];exact ho);rw[e0]at this;exact this
end
noncomputable def kN {α:Type}(n:Nat)(lt:Nat→Nat→Bool):W.KasT α→Option α
 |.ret a=>some a
 |.ask i j k=>if i<n∧j<n then kN n lt (k (lt i j)) else none
theorem tL {α:Type}{cmp:Nat→Nat→(Bool→Shared→Prop)→Shared→Prop}{n:Nat}{lt:Nat→Nat→Bool}{s:Shared}(hc:∀i j (Q:Bool→Shared→Prop),i<n→j<n→Q (lt i j) s→cmp i j Q s):∀(t:W.KasT α) (p:α) (Q:α→Shared→Prop),kN n lt t=some p→Q p s→t.kasWp cmp Q s
 |.ret a,p,Q,h,q=>by unfold kN at h;cases h;exact q
 |.ask i j k,p,Q,h,q=>by
  unfold kN at h;split at h
  ·rename_i hb;exact hc i j _ hb.1 hb.2 (tL hc (k (lt i j)) p Q h q)
  ·cases h
section
variable{prog:Program}{w:World}{A:Around}{E:Value→Shared→Prop}{s:Shared}
theorem tM {b fin:Bool}{Q:Bool→Shared→Prop}:∀{vs ws:List Value} {ns ms:List Int} (i:Nat),IntsAre vs ns→IntsAre ws ms→fin=decide (ns.length<ms.length)→Q (HT.aK ns ms) s→W.KatLex prog w A b fin Q (vs.zip ws) i s
 |_,_,_,_,i,.nil,.nil,hf,h=>by
  rw[HT.j6]at h;rw[zip_nil_left];exact W.kat_nil (by rw[hf];exact h)
 |_,_,_,_,i,.nil,.cons n t h2,hf,h=>by
  rw[HT.jz]at h;rw[zip_nil_left];exact W.kat_nil (by rw[hf];simpa using h)
 |_,_,_,_,i,.cons n t h1,.nil,hf,h=>by
  rw[HT.jw]at h;rw[List.zip_nil_right];exact W.kat_nil (by rw[hf];simpa using h)
 |_,_,_,_,i,.cons n t h1,.cons m u h2,hf,h=>by
  rw[HT.oP]at h;rw[zip_cons_cons];refine W.kat_cons (wpAny_eqBool_int ?_);by_cases e:n=m
  ·rw[if_pos e]at h;have e':(n==m)=true:=by simp[e]
   rw[e'];exact W.kat_yes (tM (i+1) h1 h2 (by rw[hf];simp) h)
  ·rw[if_neg e]at h;have e':(n==m)=false:=beq_eq_false_iff_ne.mpr e;rw[e'];refine W.kat_no ?_;cases hb:(b&&i==0) with
   |true=>exact oneLt_int h
   |false=>exact W.kat_one _ _ (lt_int (by exact h))
theorem DE {x y:Addr}{xs ys:Array Value}{ns ms:List Int}{b:Bool}{Q:Bool→Shared→Prop}(hx:IsTup s.heap x xs)(hy:IsTup s.heap y ys)(ix:IntsAre xs.toList ns)(iy:IntsAre ys.toList ms)(h:Q (HT.aK ns ms) s):wpAny (model prog w) A (keyLt' (tuples' b) (.ref x) (.ref y)) Q E s:=by
 refine yL (hx) fun ox hox _ n dx=>?_;refine yL (hy) fun oy hoy _ k dy=>?_;refine W.kat_lt hox dx hoy dy (tM 0 ix iy ?_ h);have h1:=ix.length;have h2:=iy.length;rw[length_toList]at h1 h2;rw[h1,h2]
noncomputable def TupsIn (h:Heap)(vs:List Value)(ts:List (List Int)):Prop:=vs.length=ts.length∧∀(i:Nat) (v:Value),vs[i]?=some v→∃b items,v= .ref b∧IsTup h b items∧IntsAre items.toList (ts.getD i [])∧ts.getD i []≠[]
theorem TupsIn.keep {h h':Heap}{vs:List Value}{ts:List (List Int)}(x:TupsIn h vs ts)(k:∀b o,h.get? b=some o→o.cls= .type "tuple" →h'.get? b=some o):TupsIn h' vs ts:=⟨x.1,fun i v hv=>by
 refine bA (x.2 i v hv) fun b items e hS147 r=>?_;obtain⟨o,ho,hc,hd⟩:=hS147;exact(dR b items e (gW o (k b o ho hc) hc hd) r)⟩
theorem oF {h:Heap}:∀{vs:List Value} {ts:List (List Int)},TupsIn h vs ts→∃fs:List Value,W.KatTups h vs fs∧fs.length=vs.length∧∀v∈fs,∃n t,v= .int n t
 | [],ts,_=>(gW ([]) .nil rfl (fun v hv=>nomatch hv))
 |v::vs,ts,x=>by
  obtain⟨t,X,rfl⟩:∃t X,ts=t::X:=by
   match ts,x.1 with
   | [],h=>simp at h
   |t::X,_=>exact⟨t,X,rfl⟩
  refine cps fun PP kP=>?_;refine pG (x.2 0 v rfl) fun b V e hS148 hi hne=>?_;obtain⟨o,ho,hc,nn,hd⟩:=hS148;have hi:IntsAre V.toList t:=hi;have hne:t≠[]:=hne;refine cj (oF (vs:=vs) (ts:=X) ⟨by have:=x.1;simpa using this,fun i u hu=>x.2 (i+1) u (by simpa using hu)⟩) fun fs h1 h2 h3=>?_;refine kP ?_;clear kP PP;subst e;cases q:V.toList with
  |nil=>rw[q]at hi;cases hi;exact absurd rfl hne
  |cons f r=>
   rw[q]at hi;cases hi with
   |cons n tk hi'=>
    refine(gW (.int n tk::fs) (.cons ho hc hd ?_ h1) (by simp[h2]) (fun u hu=>?_))
    ·rw[←Array.getElem?_toList,q];rfl
    ·rcases mem_cons.mp hu with z|z
     ·exact⟨n,tk,z⟩
     ·exact h3 u z
theorem pR {a:Addr}{vs:List Value}{n:Nat}{P:Fin→Shared→Prop}(ho:s.heap.get? a=some (seqObj "list" vs.toArray n))(h1:vs.length<2)(h:P (.done (.ret .none)) {s with heap:=sortedHeap s.heap a vs vs.toArray}):wpAny (model prog w) A (Builtin.«list.sort» ⟨[.ref a],[]⟩) P E s:=by
 rw[list_sort_plain];have ha:a<s.heap.objs.size:=Heap.lt_size ho;refine wpAny_bind (listItems_at ho rfl ?_);refine wpAny_bind (listUpdate_at ho rfl ?_ (by rw[size_toArray,sizeLine_eq];omega) (zero_le _));obtain⟨e1,ho1⟩:∃e1,(s.heap.update a (Obj.mapSeq fun _=> #[])).get? a=some (seqObj "list" #[] e1):=⟨_,get?_update_seq ho (fun _=> #[])⟩;refine wpAny_bind (seqEpoch_at ho1 rfl ?_);refine wpAny_bind (wpAny_newTuple ?_ (by show vs.length≤_;rw[sizeLine_eq];omega));refine wpAny_bind (wpAny_newList ?_ (zero_le _));refine wpAny_holding ?_;have ho6:(((s.heap.update a (Obj.mapSeq fun _=> #[])).push (seqObj "tuple" vs.toArray 0)).push (seqObj "list" #[] 0)).get? a=some (seqObj "list" #[] e1):=Heap.get?_push_of_some _ (Heap.get?_push_of_some _ ho1);show wpAny (model prog w) A _ P E {s with heap:=((s.heap.update a (Obj.mapSeq fun _=> #[])).push (seqObj "tuple" vs.toArray 0)).push (seqObj "list" #[] 0)}
 dsimp only;have h2:vs.toArray.size<2:=by rw[size_toArray];exact h1
 rw[if_pos h2,if_pos h2];refine wpAny_bind (wpAny_pure ?_);rw[StateT.run_pure];refine wpAny_bind (wpAny_pure ?_);dsimp only;refine wpAny_bind (seqEpoch_at ho6 rfl ?_);have hz:(arrOf (SortSt.mk' general' (vs.toArray.zip vs.toArray) #[] 7 none)).map (·.2)=vs.toArray:=by
  show (vs.toArray.zip vs.toArray).map (·.2)=vs.toArray;apply Array.toList_inj.mp;simp[List.map_snd_zip]
 rw[hz];refine wpAny_bind (listUpdate_at ho6 rfl ?_ (zero_le _) (by rw[size_toArray,sizeLine_eq];omega));simp only[bne_self_eq_false,false_eq_true,if_false];exact wpAny_pure h
theorem oS {a:Addr}{vs:List Value}{ts:List (List Int)}{n:Nat}{p:Array Nat}{P:Fin→Shared→Prop}(ho:s.heap.get? a=some (seqObj "list" vs.toArray n))(hT:TupsIn s.heap vs ts)(h2:2≤vs.length)(h64:vs.length<64)
  (hr:kN vs.length (fun i j=>HT.aK (ts.getD i []) (ts.getD j [])) (W.kas_sort vs.length)=some p) (h:P (.done (.ret .none)) {s with heap:=sortedHeap s.heap a vs (List.toArray (p.toList.map fun i=>vs.getD i Value.none))}) (hp:p.size=vs.length):wpAny (model prog w) A (Builtin.«list.sort» ⟨[.ref a],[]⟩) P E s:=by
 rw[list_sort_plain];have ha:a<s.heap.objs.size:=Heap.lt_size ho;refine wpAny_bind (listItems_at ho rfl ?_);refine wpAny_bind (listUpdate_at ho rfl ?_ (by rw[size_toArray,sizeLine_eq];omega) (zero_le _));obtain⟨e1,ho1⟩:∃e1,(s.heap.update a (Obj.mapSeq fun _=> #[])).get? a=some (seqObj "list" #[] e1):=⟨_,get?_update_seq ho (fun _=> #[])⟩;refine wpAny_bind (seqEpoch_at ho1 rfl ?_);refine wpAny_bind (wpAny_newTuple ?_ (by show vs.length≤_;rw[sizeLine_eq];omega));refine wpAny_bind (wpAny_newList ?_ (zero_le _));refine wpAny_holding ?_;have ho6:(((s.heap.update a (Obj.mapSeq fun _=> #[])).push (seqObj "tuple" vs.toArray 0)).push (seqObj "list" #[] 0)).get? a=some (seqObj "list" #[] e1):=Heap.get?_push_of_some _ (Heap.get?_push_of_some _ ho1);show wpAny (model prog w) A _ P E {s with heap:=((s.heap.update a (Obj.mapSeq fun _=> #[])).push (seqObj "tuple" vs.toArray 0)).push (seqObj "list" #[] 0)}
 dsimp only;have hn2:¬vs.toArray.size<2:=by rw[size_toArray];omega
 rw[if_neg hn2,if_neg hn2];have hT2:TupsIn (((s.heap.update a (Obj.mapSeq fun _=> #[])).push (seqObj "tuple" vs.toArray 0)).push (seqObj "list" #[] 0)) vs ts:=hT.keep fun b o e hc=>by
  have hb:b≠a:=fun z=>by rw[z,ho]at e;cases e;injection hc with hc;exact absurd hc (by decide)
  exact Heap.get?_push_of_some _ (Heap.get?_push_of_some _ ((Heap.get?_update_other _ _ (Ne.symm hb)).trans e))
 refine cj (oF hT2) fun fs k1 k2 k3=>?_;refine wpAny_bind (W.kat_kind (T:=.type "int") (s:={s with heap:=((s.heap.update a (Obj.mapSeq fun _=> #[])).push (seqObj "tuple" vs.toArray 0)).push (seqObj "list" #[] 0)}) k1 (by omega) (fun v hv=>?_) rfl ?_)
 ·obtain⟨m,t,rfl⟩:=k3 v hv;exact W.Looks.of_pure rfl
 ·refine wpAny_bind (wpAny_mono (W.kat_run (s:={s with heap:=((s.heap.update a (Obj.mapSeq fun _=> #[])).push (seqObj "tuple" vs.toArray 0)).push (seqObj "list" #[] 0)}) (Q:=fun X s'=>arrOf X=p.map (W.kas_item (vs.toArray.zip vs.toArray))∧failedOf X=none∧s'={s with heap:=((s.heap.update a (Obj.mapSeq fun _=> #[])).push (seqObj "tuple" vs.toArray 0)).push (seqObj "list" #[] 0)})
   (G:=fun p' s'=>p'=p∧s'={s with heap:=((s.heap.update a (Obj.mapSeq fun _=> #[])).push (seqObj "tuple" vs.toArray 0)).push (seqObj "list" #[] 0)}) rfl h2 h64 (fun p' X s' a1 a2 a3 a4=>⟨by rw[a2,a4.1],a3,a4.2⟩) (tL (fun i j Q hi hj hQ=>?_) _ p _ hr ⟨rfl,rfl⟩)) ?_ fun _ _ e=>e)
  ·refine pG (hT2.2 i vs[i] (cz hi)) fun b ib e1' p1 n1 _=>?_;refine pG (hT2.2 j vs[j] (cz hj)) fun c ic e2' p2 n2 _=>?_;unfold W.kas_ask;have g1:vs.getD i Value.none= .ref b:=by simp[hi,e1']
   have g2:vs.getD j Value.none= .ref c:=by simp[hj,e2']
   rw[g1,g2];exact DE p1 p2 n1 n2 hQ
  ·rintro⟨⟨⟩,X⟩ s' ⟨har,hf,rfl⟩;dsimp only;refine wpAny_bind (seqEpoch_at ho6 rfl ?_);have hout:=W.kat_snds (vs:=vs) rfl har;rw[hout];refine wpAny_bind (listUpdate_at ho6 rfl ?_ (zero_le _) (by rw[size_toArray,length_map,length_toList,hp,sizeLine_eq];omega));rw[hf];simp only[bne_self_eq_false,false_eq_true,if_false];exact wpAny_pure h
theorem qC {l:Addr}{vs:List Value}{out:Array Value}{Q:Value→Shared→Prop}(hl:s.heap.IsList l vs.toArray)(hn:vs.length<64)
  (hsort:∀(s':Shared) (P:Fin→Shared→Prop) (E':Value→Shared→Prop) (A':Around) (a:Addr),(∀b o,s.heap.get? b=some o→s'.heap.get? b=some o)→s'.heap.get? a=some (seqObj "list" vs.toArray 0)→P (.done (.ret .none)) {s' with heap:=sortedHeap s'.heap a vs out}→wpAny (model prog w) A' (Builtin.«list.sort» ⟨[.ref a],[]⟩) P E' s')
  (h:Q (.ref (s.heap.objs.size+1)) {s with heap:=sortedAll s.heap vs out}):wpAny (model prog w) A (call (.builtin "sorted") [.ref l]) Q E s:=by
 refine Calls.call_function_entry kind_sorted plain_sorted entry_sorted (args_sorted1 _) ?_;unfold Builtin.«sorted»;refine wpAny_bind (m:=checkCount "sorted" 1 1 _) (wpAny_pure ?_);refine wpAny_bind (collect_list hl ?_ (by rw[sizeLine_eq];omega));refine wpAny_bind (wpAny_newList ?_ (by rw[sizeLine_eq];omega));have hsz:((s.heap.push (seqObj "list" #[] 0)).update s.heap.objs.size (Obj.mapSeq (· ++ vs.toArray))).objs.size=s.heap.objs.size+1:=by
  rw[Heap.size_update,size_push']
 have hoL:(((s.heap.push (seqObj "list" #[] 0)).update s.heap.objs.size (Obj.mapSeq (· ++ vs.toArray))).push (seqObj "list" vs.toArray 0)).get? (s.heap.objs.size+1)=some (seqObj "list" vs.toArray 0):=by
  rw[←hsz];exact Heap.get?_push_size _ rfl
 show wpAny _ _ _ _ _ {s with heap:=((s.heap.push (seqObj "list" #[] 0)).update s.heap.objs.size (Obj.mapSeq (· ++ vs.toArray))).push (seqObj "list" vs.toArray 0)}
 rw[hsz];refine wpAny_bind (wpAny_holding (wpAny_call_entry slot_list_sort ⟨_,hoL,rfl⟩ entry_list_sort (hsort {s with heap:=((s.heap.push (seqObj "list" #[] 0)).update s.heap.objs.size (Obj.mapSeq (· ++ vs.toArray))).push (seqObj "list" vs.toArray 0)} _ _ _ _ (fun b o e=>?_) hoL ⟨_,rfl,?_⟩) (args_list_sort _)))
 ·have hlt:b<s.heap.objs.size:=Heap.lt_size e;exact Heap.get?_push_of_some _ ((Heap.get?_update_other _ _ (ne_of_gt hlt)).trans (Heap.get?_push_of_some _ e))
 ·exact wpAny_pure ⟨_,rfl,h⟩
end
noncomputable def b7:List D→Res D
 | [.lst l]=>if l.length<2 then .ok (.lst l) else (match gj l with
  |some ts=>if (ts.all (fun t=> !t.isEmpty)&&decide (ts.length<64))=true then (match kN ts.length (fun i j=>HT.aK (ts.getD i []) (ts.getD j [])) (W.kas_sort ts.length) with
   |some p=>if p.size=ts.length∧(p.toList.all fun i=>decide (i<ts.length))=true then .ok (.lst (p.toList.map fun i=>.tup ((ts.getD i []).map D.int))) else .bad
   |none=>.bad) else .bad
  |none=>.bad)
 |_=>.bad
section
variable{X:Cx}{E:XK}
theorem kC {pins:List (Addr×Obj)}{σ:St}{H:Hp}{s:Shared}{vs:List Value}{out:List Value}{ys:List V}{Q:VK}(I:Inv X pins σ H s)(rv:Vals ys out)(hz:ys.length≤sizeLine)(q:∀p,H p=none→Q (.ref p) (bo H p (.lst ys))):EP X pins σ Q (.ref (s.heap.objs.size+1)) {s with heap:=sortedAll s.heap vs out.toArray}:=by
 obtain⟨e,he⟩:=sortedAll_at s.heap vs out.toArray;have hn:=I.hok.fresh (le_succ s.heap.objs.size);refine⟨.ref (s.heap.objs.size+1),_,I.laid (o:=.lst ys) (t':=s.toks) (fun b o q=>sortedAll_old q) (le_succ _) (oB hz out e rv he),rfl,q _ hn⟩
theorem uP:eD X (.builtin "sorted") (fun xs H Q=>∃p vs,xs=[.ref p]∧gC X.K H p vs∧((vs.length<2∧∀l,H l=none→Q (.ref l) (bo H l (.lst vs)))∨
  ∃ts pr,uM X.K H vs ts∧(∀t∈ts,t≠[])∧2≤ts.length∧ts.length<64∧kN ts.length (fun i j=>HT.aK (ts.getD i []) (ts.getD j [])) (W.kas_sort ts.length)=some pr∧pr.size=ts.length∧(∀i∈pr.toList,i<ts.length)∧∀l,H l=none→Q (.ref l) (bo H l (.lst (pr.toList.map fun i=>vs.getD i .non))))):=by
 intro pins s σ H xs us Q I r h;refine cps fun PP kP=>?_;obtain⟨p,vs,rfl,sq,h⟩:=h;obtain⟨u,rfl,ru⟩:=ke r;refine kP ?_;clear kP PP;cases (show u= .ref p from ru);obtain⟨L,rv,pl,hz⟩:=I.list sq;have hil:=rv.length
 rcases h with ⟨hlt,q⟩|⟨ts,pr,⟨hlen,htup⟩,hne,h2,h64,hr,hps,hin,q⟩
 ·exact qC pl.isList (by omega) (fun s' P E' A' a _ ho h=>pR ho (by omega) h) (kC I rv hz q)
 ·have hit:L.length=ts.length:=by omega
  have T:TupsIn s.heap L ts:=⟨hit,fun i u hu=>by
   have hi:i<L.length:=(cU hu).1;have hi':i<ts.length:=by omega
   have Y:i<vs.length:=by omega
   obtain⟨u',U,V⟩:=rv.get (cz Y);rw[hu]at U;cases U;obtain⟨a,ea,sqa⟩:=htup i vs[i] ts[i] (cz Y) (cz hi');rw[ea]at V;cases V;obtain⟨its2,r2,p2,_⟩:=I.tuple sqa;have:ts.getD i []=ts[i]:=by rw[getD_eq_getElem?_getD,cz hi'];rfl
   rw[this];exact⟨a,its2.toArray,rfl,p2,fF r2,hne _ (getElem_mem hi')⟩⟩
  have rv2:Vals (pr.toList.map fun i=>vs.getD i .non) (pr.toList.map fun i=>L.getD i Value.none):=by
   have go:∀(l:List Nat),(∀i∈l,i<ts.length)→Vals (l.map fun i=>vs.getD i .non) (l.map fun i=>L.getD i Value.none):=by
    intro l
    induction l with
    |nil=>intro _;exact .nil
    |cons i l ih=>
     intro hl;have hi:=hl i (mem_cons_self ..);have Y:i<vs.length:=by omega
     obtain⟨u',U,V⟩:=rv.get (cz Y);refine .cons ?_ (ih fun j hj=>hl j (cR hj));have e1:vs.getD i .non=vs[i]:=by rw[getD_eq_getElem?_getD,cz Y];rfl
     have e2:L.getD i Value.none=u':=by rw[getD_eq_getElem?_getD,U];rfl
     show RelV (vs.getD i .non) (L.getD i Value.none);rw[e1,e2];exact V
   exact go _ hin
  refine qC pl.isList (by omega) (fun s' P E' A' a k ho h=>oS (p:=pr) (ts:=ts) ho (T.keep fun b o e _=>k b o e) (by omega) (by omega) (by rw[hit];exact hr) h (by omega)) (kC I rv2 (by rw[length_map,length_toList,hps];have:=sizeLine_eq;omega) q)
theorem AD {e:Expr}{p pos:Pos}{f:DS→Res D}(hm:X.mg "sorted" =none)(h:PD X E e f)(hg:Gl X "sorted" :=by rfl)(he:starEach [e] X.env=(false,eval e X.env)::starEach [] X.env:=by rfl):PN X E 1 (.Call (.Name "sorted" p) [e] [] pos) (fun ρ=>(f ρ).bind fun a=>b7 [a]):=by
 have hpd:mW X E [e] (fun ρ=>(f ρ).bind fun d=>.ok [d]):=aa h ac he;refine .tn (t_ (x:= "sorted") (p:=p) (pos:=pos) uP hg hm boot_sorted (jC hpd) (by decide) (by decide) he rfl) fun σ G H ρ Q hs hro ho k=>⟨G,ρ,hs,hro,?_,fun ds e1 vs G1 H1 x1 p1=>?_⟩
 ·have ho:=ho.fst;show OkR E H ((f ρ).bind fun d=>.ok [d]);cases q:f ρ with
  |ok d=>trivial
  |exc c=>rw[q]at ho;exact ho
  |bad=>rw[q]at ho;exact ho
 ·have ed:∃d,f ρ= .ok d∧ds=[d]:=by
   have e1:((f ρ).bind fun d=>(.ok [d]:Res (List D)))= .ok ds:=e1;cases q:f ρ with
   |ok d=>rw[q]at e1;cases e1;exact⟨d,rfl,rfl⟩
   |exc c=>rw[q]at e1;cases e1
   |bad=>rw[q]at e1;cases e1
  refine cps fun PP kP=>?_;obtain⟨d,ed,rfl⟩:=ed;have L:=ho.snd ed x1.hh;have e0:((f ρ).bind fun a=>b7 [a])=b7 [d]:=by rw[ed];rfl
  obtain⟨v,r,rfl,rx,r0⟩:=p1.inv;refine kP ?_;clear kP PP;rw[r0.inv0];unfold b7 at L;split at L
  ·rename_i l hd;cases hd;rw[rep_lst]at rx;obtain⟨q,xs,rfl,sq,rx⟩:=rx;refine⟨q,xs,rfl,x1.gh.seq sq.sq,?_⟩;by_cases hl:l.length<2
   ·refine .inl ⟨by rw[←rx.length];exact hl,fun m hm=>?_⟩;obtain⟨x,o,w⟩:=mm x1 hm rx;exact k _ (e0.trans (if_pos hl)) _ _ _ _ x o w
   ·rw[if_neg hl]at L;split at L
    ·rename_i ts qt;have el:=nT qt;split at L
     ·rename_i hc;split at L
      ·rename_i pr hrun;split at L
       ·rename_i hp;rw[and_eq_true]at hc;have hlen:l.length=ts.length:=by rw[el,length_map]
        have hin:∀i∈pr.toList,i<ts.length:=fun i hi=>of_decide_eq_true (all_eq_true.mp hp.2 i hi);refine .inr ⟨ts,pr,qF x1.gh (by rw[←el];exact rx),fun t ht=>?_,by omega,of_decide_eq_true hc.2,hrun,hp.1,hin,fun m hm=>?_⟩
        ·have:=all_eq_true.mp hc.1 t ht;intro z;rw[z]at this;cases this
        ·have rl:RepL X.K G1 (pr.toList.map fun i=>.tup ((ts.getD i []).map D.int)) (pr.toList.map fun i=>xs.getD i .non):=by
          have go:∀(m:List Nat),(∀i∈m,i<ts.length)→RepL X.K G1 (m.map fun i=>.tup ((ts.getD i []).map D.int)) (m.map fun i=>xs.getD i .non):=by
           intro m
           induction m with
           |nil=>intro _;exact .nil
           |cons i m ih=>
            intro hm;have hi:=hm i (mem_cons_self ..);obtain⟨v,hv,rv⟩:=rx.get (i:=i) (d:=.tup ((ts.getD i []).map D.int)) (by
             rw[el,getElem?_map,cz hi,getD_eq_getElem?_getD,cz hi];rfl)
            refine .cons ?_ (ih fun j hj=>hm j (cR hj));have e2:xs.getD i .non=v:=by rw[getD_eq_getElem?_getD,hv];rfl
            show Rep X.K G1 _ (xs.getD i .non);rw[e2];exact rv
          exact go _ hin
         obtain⟨x,o,w⟩:=mm x1 hm rl;refine k _ (e0.trans ?_) _ _ _ _ x o w;show (if l.length<2 then _ else _)=_
         rw[if_neg hl,qt];dsimp only;rw[if_pos (by rw[and_eq_true];exact hc),hrun];exact if_pos hp
       ·exact L.elim
      ·exact L.elim
     ·exact L.elim
    ·exact L.elim
  ·exact L.elim
end
section
variable{X:Cx}{E:XK}{μ:List Nat}{r n:Nat}
noncomputable def JJ (K:W.Frag)(te tk:TE):TE:=fun σ H Q=>te σ H fun x H1=>tk σ H1 fun k H2=>k= .int (-1)∧∃a xs,x= .ref a∧gC K H2 a xs∧∀p,H2 p=none→Q (.ref p) (bo H2 p (.lst xs.reverse))
theorem Gk {e st:Expr}{te tk:TE}{p2 pos:Pos}(he:PE X e te)(hk:PE X st tk):PE X (.Subscript e (.Slice none none (some st) p2) pos) (JJ X.K te tk):=by
 intro p s σ H Q I h;refine Subscript_ (aO (he p s σ H _ I h) fun v s1 hZ169=>?_);obtain⟨x,H1,I1,r1,q1⟩:=hZ169;refine wpAny_Slice ?_;rw[evalPart_none,evalPart_some];refine wpAny_pure (wpAny_pure (aO (hk p s1 σ H1 _ I1 q1) fun vk s3 hZ170=>?_));obtain⟨k,H3,I3,rk,ek,a,xs,ea,sq,q3⟩:=hZ170;subst ek ea;cases r1;obtain⟨t,rfl⟩:=rk;have I4:Inv X p σ H3 {s3 with heap:=s3.heap.push {cls:=.type "slice",data:=.fields #[.none,.none,.int (-1) t]}}:=I3.kept (t':=s3.toks) fun b ob q=>Heap.get?_push_of_some _ q
 refine cj (I4.list sq) fun its rv pl hz=>?_;show wpAny (model X.prog X.w) X.A (subscriptTail e (.Slice none none (some st) p2) (.ref a) (.ref s3.heap.objs.size)) (EP X p σ Q) X.xe {s3 with heap:=s3.heap.push {cls:=.type "slice",data:=.fields #[.none,.none,.int (-1) t]}}
 refine tail_any (ops:=[.ref a,.ref s3.heap.objs.size]) pl.isList.typeIs slot_list_getitem.lookup ?_ (by with_unfolding_all rfl);refine wpAny_getItem_list_slice (vs:=.int (-1) t) (st:=some (-1)) pl.isList (Heap.IsSliceOf.new ..) .none .none (.int _ _) (by decide) ?_ (by rw[size_toArray];have:=rv.length;omega);rw[W.krv_pick];have hn:=I4.hok.fresh (le_refl _);have rr:Vals xs.reverse its.reverse:=by
  have go:∀{xs:List V} {us:List Value},Vals xs us→Vals xs.reverse us.reverse:=by
   intro xs
   induction xs with
   |nil=>intro us h;cases h;exact .nil
   |cons x xs ih=>
    intro us h;cases h with
    |cons r rr=>
     rw[reverse_cons,reverse_cons];exact(ih rr).append (.cons r .nil)
  exact go rv
 refine⟨.ref _,_,I4.laid (t':=s3.toks) (o:=.lst xs.reverse) (fun b ob q=>Heap.get?_push_of_some _ q) (le_refl _) ?_,rfl,q3 _ hn⟩;exact(oB (by rw[length_reverse];exact hz) its.reverse 0 rr (Heap.get?_push_size _ rfl))
noncomputable def ug:D→D→Res D
 |.lst l,.int k=>if k= -1 then .ok (.lst l.reverse) else .bad
 |_,_=>.bad
theorem Gu {e st:Expr}{f g:DS→Res D}{p2 pos:Pos}(he:PD X E e f)(hk:PD X E st g):PN X E 1 (.Subscript e (.Slice none none (some st) p2) pos) (ae f g ug):=by
 refine .tn (Gk (pos:=pos) (p2:=p2) (fS he) (fS hk)) fun σ G H ρ Q hs hro ho k=>⟨G,ρ,hs,hro,ho.fst,fun d e1 v G1 H1 x1 p1=>⟨G1,ρ,x1.gh,hro.mono x1.gg,(ho.snd e1 x1.hh).fst,fun d2 e2 v2 G2 H2 x2 p2=>?_⟩⟩;have kk:=(ho.snd e1 x1.hh).snd e2 x2.hh;have e0:ae f g ug ρ=ug d d2:=by unfold ae;rw[e1,aD,e2,aD]
 unfold ug at kk;split at kk
 ·rename_i l kv;split at kk
  ·rename_i hk1;subst hk1;rw[rep_lst]at p1;rw[rep_int]at p2;refine bA (p1) fun a xs hS149 sq rl=>?_;subst hS149;refine(Fx p2 a xs rfl (x2.hh.seq (x1.gh.seq sq.sq)) (fun p hp=>?_));obtain⟨x,o,w⟩:=mm (x1.trans x2) hp (rl.mono x2.gg).reverse;exact k _ (by rw[e0];unfold ug;exact if_pos rfl) _ _ _ _ x o w
  ·exact kk.elim
 ·exact kk.elim
noncomputable def Bd:D→Res Bool
 |.lst l=>.ok (!l.isEmpty)
 |.bl b=>.ok b
 |_=>.bad
theorem nI {e:Expr}{f:DS→Res D}(h:PD X E e f)(he:∀whole,isTrue e X.env whole=(do let v ←whole;standAt e.pos;holding [v] (truthy v)):=by intro _;rfl):uG X E e (fun ρ=>(f ρ).bind Bd):=by
 intro pins s σ G H ρ I hs hro ho;refine isTrue_plain (aO (h pins s σ G H ρ I hs hro ho.fst) fun v s1 hZ171=>?_) (he _);obtain⟨d,e,v3,G3,H3,I3,r3,x3,p3⟩:=hZ171;have k:=ho.snd e (Same.refl H);cases d with
 |bl b=>
  rw[rep_bl]at p3;subst p3;cases r3;exact wpAny_truthy_bool ⟨al e rfl,G3,H3,I3,x3⟩
 |lst l=>
  rw[rep_lst]at p3;refine bA (p3) fun a xs hS150 sq rl=>?_;subst hS150;cases r3;refine cj (I3.list (x3.gh.seq sq.sq)) fun its rv pl hz=>?_;refine wpAny_truthy_list pl.isList (by rw[size_toArray,←rv.length];have:=sizeLine_eq;omega) ⟨al e ?_,G3,H3,I3.tok _,x3⟩;show Res.ok (!l.isEmpty)= .ok _;have h1:=rl.length;have h2:=rv.length;cases l with
  |nil=>
   cases its with
   |nil=>rfl
   |cons _ _=>simp at h1;rw[←h1]at h2;simp at h2
  |cons _ _=>
   cases its with
   |nil=>rw[←h1]at h2;simp at h2
   |cons _ _=>rfl
 |_=>exact k.elim
theorem cv {st:Stmt}:mX X E μ r st (fun _=>.bad):=fun _ _ _ _ _ _ _ _ _ _ _ ho=>ho.elim
theorem yp {sts:List Stmt}:uK X E μ r sts (fun _=>.bad):=fun _ _ _ _ _ _ _ _ _ _ _ ho=>ho.elim
end
noncomputable def gU (n:Nat)(N:List Str)(F:DS→Out):List D→Res D:=fun ds=>if ds.length=n then fQ (F (aC N ds)) else .bad
section
variable{P:Program}{w:World}{K:W.Frag}{mg:Str→Option Value}{base:Heap}
structure Cal (P:Program)(w:World)(K:W.Frag)(mg:Str→Option Value)(base:Heap)(x:Str)(k:Nat)(ps:List Str)(sp:Sp):Prop where
 ex:∃f fd,FnOk P w K mg base (CXF P w) k f fd ps sp∧Binds K fd ps []∧mg x=some (.ref f)∧W.keepIn K (.ref f)=true
structure Sta (K:W.Frag)(mg:Str→Option Value)(x:Str)(st:Stmt)(ps:List Str):Prop where
 ex:∃f fd,Fun K x x st f fd∧Binds K fd ps []∧mg x=some (.ref f)∧W.keepIn K (.ref f)=true
theorem Sta.cal {x:Str}{st:Stmt}{N ps:List Str}{k r n:Nat}{F:DS→Out}(S:Sta K mg x st ps)(sc:FnScope N ps (ag st))(μ:List Nat)(hμ:∀i,i<ps.length→μ.getD i 0=0)(hn:ps.length=n)
  (hbody:∀(f:Addr) (cdv:Value) (A:Around) (outer:List Env) (s:Shared) (H:Hp) (E:XK),Room k (A.deeper (envOfC x (ag st) s.heap.objs.size f cdv))→
   uK (yR P w K mg base N x (ag st) f cdv A outer s H E) E μ r (cL st) F):Cal P w K mg base x (k+1) ps (freshSp K r (gU n N F)):=by
 refine pG (S.ex) fun f fd hf hb hm hk=>?_;refine⟨f,fd,hf.fresh sc μ hμ (fun ds h=>?_) (fun cdv A outer s H E hr=>⟨F,hbody f cdv A outer s H E hr,fun ds h=>?_⟩),hb,hm,hk⟩
 ·unfold gU at h;split at h
  ·rename_i e;rw[e,hn]
  ·exact absurd rfl h
 ·unfold gU at h ⊢;split at h
  ·rename_i e;rw[if_pos e]
  ·exact absurd rfl h
end
section
variable{X:Cx}{E:XK}{n:Nat}
theorem jE {k j:Nat}{ps:List Str}{m:List D→Res D}{x:Str}{p pos:Pos}{e:Expr}{es:List Expr}{fs:DS→Res (List D)}(C:Cal X.prog X.w X.K X.mg X.base x k ps (freshSp X.K n m))(hr:Room j X.A)
  (ha:mW X E (e::es) fs) (hx:cQ (CXF X.prog X.w) X E:=by exact ji fun _ _ _ h=>h) (hkj:k≤j:=by decide) (hg:Gl X x:=by rfl) (hdb:(x==("__debug__" :Str))=false:=by decide) (he:starEach (e::es) X.env=(false,eval e X.env)::starEach es X.env:=by rfl) (hpl:(backTo pos (starEach es X.env)).any (·.1)=false:=by rfl) :
  PN X E n (.Call (.Name x p) (e::es) [] pos) (bL fs m):=by
 refine pG (C.ex) fun f fd F hb hm hk=>?_;exact Dj F (hr.mono hkj) hg hm hk hb hx ha hdb he hpl
theorem aI {k j:Nat}{ps:List Str}{m:List D→Res D}{x:Str}{p pos:Pos}{e:Expr}{es:List Expr}{fs:DS→Res (List D)}(C:Cal X.prog X.w X.K X.mg X.base x k ps (freshSp X.K n m))(hr:Room j X.A)
  (ha:mW X E (e::es) fs) (hx:cQ (CXF X.prog X.w) X E:=by exact ji fun _ _ _ h=>h) (hkj:k≤j:=by decide) (hg:Gl X x:=by rfl) (hdb:(x==("__debug__" :Str))=false:=by decide) (he:starEach (e::es) X.env=(false,eval e X.env)::starEach es X.env:=by rfl) (hpl:(backTo pos (starEach es X.env)).any (·.1)=false:=by rfl) :
  PD X E (.Call (.Name x p) (e::es) [] pos) (bL fs m):=(jE C hr ha hx hkj hg hdb he hpl).pd
end
noncomputable def fy (so:Scope)(No:List Str)(scope:Scope):List Str→List (Option Nat)→Bool
 |x::N,some k::caps=>decide (scope.names.lookup x=some .free)&&decide (No[k]?=some x)&&(decide (so.names.lookup x=some .cell)||decide (so.names.lookup x=some .free))&&fy so No scope N caps
 |_::N,none::caps=>fy so No scope N caps
 | [],[]=>true
 |_,_=>false
theorem ku {so:Scope}{No:List Str}{scope:Scope}:∀{N:List Str} {caps:List (Option Nat)},fy so No scope N caps=true→caps.length=N.length
 | [],[],_=>rfl
 | [],_::_,h=>by unfold fy at h;cases h
 |_::_,[],h=>by unfold fy at h;cases h
 |x::N,none::caps,h=>by unfold fy at h;rw[length_cons,length_cons,ku h]
 |x::N,some k::caps,h=>by unfold fy at h;rw[and_eq_true]at h;rw[length_cons,length_cons,ku h.2]
theorem jP {so:Scope}{No:List Str}{scope:Scope}:∀{N:List Str} {caps:List (Option Nat)} {j k:Nat} {x:Str},fy so No scope N caps=true→caps[j]?=some (some k)→N[j]?=some x→scope.names.lookup x=some .free∧No[k]?=some x∧(so.names.lookup x=some .cell∨so.names.lookup x=some .free)
 | [],[],j,k,x,_,h1,h2=>by simp at h1
 | [],_::_,j,k,x,h,h1,h2=>by simp at h2
 |_::_,[],j,k,x,h,h1,h2=>by simp at h1
 |y::N,none::caps,j,k,x,h,h1,h2=>by
  unfold fy at h;cases j with
  |zero=>simp at h1
  |succ j=>exact jP h (by simpa using h1) (by simpa using h2)
 |y::N,some k0::caps,j,k,x,h,h1,h2=>by
  unfold fy at h;rw[and_eq_true,and_eq_true,and_eq_true,or_eq_true]at h;obtain⟨⟨⟨a,b⟩,c⟩,d⟩:=h;cases j with
  |zero=>
   simp at h1 h2;subst h1 h2;exact⟨of_decide_eq_true a,of_decide_eq_true b,c.imp of_decide_eq_true of_decide_eq_true⟩
  |succ j=>exact jP d (by simpa using h1) (by simpa using h2)
noncomputable def wc (so:Scope)(No:List Str)(scope:Scope)(N:List Str)(caps:List (Option Nat)):Bool:=
 decide (scope.kind= .function)&&scope.names.all (fun y=>decide (y.2≠ .cell))&&scope.names.all (fun y=>decide (y.2≠ .local)||decide (scope.names.lookup y.1=some .local)) &&
  scope.names.all (fun y=>decide (y.2≠ .free)||(decide (so.names.lookup y.1=some .cell)||decide (so.names.lookup y.1=some .free)))&&decide N.Nodup&&fy so No scope N caps
theorem aR {X:Cx}{scope:Scope}{N:List Str}{caps:List (Option Nat)}(so:Scope)(No:List Str)(hso:X.env.scope=so)(hNo:X.N=No)(chk:wc so No scope N caps=true):CompSc X scope N caps:=by
 unfold wc at chk;simp only[and_eq_true]at chk;obtain⟨⟨⟨⟨⟨a,b⟩,c⟩,d⟩,e⟩,f⟩:=chk;refine⟨of_decide_eq_true a,fun y hy=>of_decide_eq_true (all_eq_true.mp b y hy),fun y hy hk=>?_,fun y hy hk=>?_,of_decide_eq_true e,ku f,fun j k x h1 h2=>(jP f h1 h2).1,fun j k x h1 h2=>?_⟩
 ·have:=all_eq_true.mp c y hy;rw[or_eq_true]at this
  rcases this with z|z
  ·exact absurd hk (of_decide_eq_true z)
  ·exact of_decide_eq_true z
 ·have:=all_eq_true.mp d y hy;rw[or_eq_true,or_eq_true]at this;rw[hso]
  rcases this with z|z|z
  ·exact absurd hk (of_decide_eq_true z)
  ·exact .inl (of_decide_eq_true z)
  ·exact .inr (of_decide_eq_true z)
 ·obtain⟨_,h3,h4⟩:=jP f h1 h2;rw[hso,hNo];exact⟨h3,h4⟩
noncomputable abbrev pN:DS→Res (List D):=fun _=>.ok []
noncomputable abbrev pC (f:DS→Res D)(g:DS→Res (List D)):DS→Res (List D):=fun ρ=>(f ρ).bind fun d=>(g ρ).bind fun ds=>.ok (d::ds)
noncomputable abbrev kI (i:Int):DS→Res D:=fun _=>.ok (.int i)
noncomputable abbrev kB (b:Bool):DS→Res D:=fun _=>.ok (.bl b)
noncomputable abbrev kS (x:Str):DS→Res D:=fun _=>.ok (.str x)
noncomputable abbrev c1 (f:DS→Res D)(m:List D→Res D):DS→Res D:=fun ρ=>(f ρ).bind fun a=>m [a]
section
variable{X:Cx}{E:XK}{μ:List Nat}{r n:Nat}
theorem Gs {st:Stmt}{i:Nat}{x:Str}{f:DS→Res D}(h:∃te,PS X st (sw te (b9 i))∧TN X.K E n f te)(hi:X.N[i]?=some x)(hm:μ.getD i 0=0):mX X E μ r st (aT i (dQ μ f)):=
 let ⟨_,h1,h2⟩:=h;wN hi h1 h2.freeze hm
theorem vF {st:Stmt}{i:Nat}{x:Str}{f:DS→Res D}(h:∃te,PS X st (sw te (b9 i))∧TN X.K E n f te)(hi:X.N[i]?=some x)(hm:μ.getD i 0=n):mX X E μ r st (aT i (dQ μ f)):=
 let ⟨_,h1,h2⟩:=h;wN hi h1 h2 hm
theorem wQ {st:Stmt}{i:Nat}{x:Str}{f:DS→Res D}(h:∃te,PS X st (sw te (b9 i))∧TN X.K E n f te)(hi:X.N[i]?=some x):mX X E [] r st (aT i f):=by
 have:=Gs (μ:=[]) (r:=r) h hi rfl;unfold dQ at this;simp only[lq]at this;exact this
noncomputable abbrev sL (f:DS→Res D):DS→Res (List D):=fun ρ=>(f ρ).bind DB
noncomputable abbrev sT (f:DS→Res D):DS→Res (List D):=fun ρ=>(f ρ).bind GM
noncomputable abbrev sR1 (fs:DS→Res (List D)):DS→Res (List D):=fun ρ=>(fs ρ).bind sd
noncomputable abbrev sR2 (fs:DS→Res (List D)):DS→Res (List D):=fun ρ=>(fs ρ).bind AO
noncomputable abbrev sE (fs:DS→Res (List D)):DS→Res (List D):=fun ρ=>(fs ρ).bind s_
noncomputable abbrev sZ (fs:DS→Res (List D)):DS→Res (List D):=fun ρ=>(fs ρ).bind pI
noncomputable abbrev oI (f:DS→Res D):DS→Res (Option Int):=fun ρ=>(f ρ).bind Jh
noncomputable abbrev oN:DS→Res (Option Int):=fun _=>.ok none
noncomputable abbrev tR (f:DS→Res D):DS→Res Bool:=fun ρ=>(f ρ).bind Bd
noncomputable abbrev nG (f:DS→Res D):DS→Res D:=fun ρ=>(f ρ).bind FS
noncomputable abbrev yes:DS→Res Bool:=fun _=>.ok true
noncomputable abbrev bad1:DS→Out:=fun _=>.bad
noncomputable abbrev nxt:DS→Out:=fun ρ=>.nx ρ
noncomputable abbrev JR (f:DS→Res D):DS→Res (List D):=fun ρ=>(f ρ).bind fun d=>.ok [d]
end
structure CalM (P:Program)(w:World)(K:W.Frag)(mg:Str→Option Value)(base:Heap)(C:Addr)(m:Str)(k:Nat)(g:List D→Res D):Prop where
 cl:Cls K C
 ex:∃f fd,Meth K C m f∧FnOk P w K mg base (CXF P w) k f fd ["self"] (pureSp K g)∧Binds K fd ["self"] []
structure CalI (P:Program)(w:World)(K:W.Frag)(mg:Str→Option Value)(base:Heap)(x:Str)(C:Addr)(k:Nat)(ps:List Str)(m:List D→Res D):Prop where
 of:Ey C m
 mgx:mg x=some (.ref C)
 ex:∃f fd,Mk K C f∧FnOk P w K mg base (CXF P w) k f fd ps (rD K C m)∧Binds K fd ps []
section
variable{X:Cx}{E:XK}
theorem j_ {pl:Sem Bool}{k j:Nat}{C:Addr}{g:List D→Res D}{m:Str}{apos pos:Pos}{o:Expr}{fo:DS→Res D}(M:CalM X.prog X.w X.K X.mg X.base C m k g)(hr:Room j X.A)(hoo:PD X E o fo)
  (hx:cQ (CXF X.prog X.w) X E:=by exact ji fun _ _ _ h=>h) (hkj:k≤j:=by decide)
  (ht:eval (.Call (.Attribute o m apos) [] [] pos) X.env=(do
   let ov ←eval o X.env
   standAt apos.atName
   let (f,first) ←holding [ov] (getMethod ov m pl)
   callWith pos f first (backTo pos (starEach [] X.env)) (backToKw pos (keywordEach [] X.env))):=by rfl):PD X E (.Call (.Attribute o m apos) [] [] pos) (fM C m fo g):=by
 refine bA (M.ex) fun f fd hm F hb=>?_;exact Ip hoo M.cl hm F (hr.mono hkj) hb hx ht
theorem Iq {k j:Nat}{C:Addr}{ps:List Str}{m:List D→Res D}{x:Str}{p pos:Pos}{e:Expr}{es:List Expr}{fs:DS→Res (List D)}(M:CalI X.prog X.w X.K X.mg X.base x C k ps m)(hr:Room j X.A)(ha:mW X E (e::es) fs)
  (hx:cQ (CXF X.prog X.w) X E:=by exact ji fun _ _ _ h=>h) (hkj:k+1≤j:=by decide) (hg:Gl X x:=by rfl) (hdb:(x==("__debug__" :Str))=false:=by decide)
  (he:starEach (e::es) X.env=(false,eval e X.env)::starEach es X.env:=by rfl) (hpl:(backTo pos (starEach es X.env)).any (·.1)=false:=by rfl):PD X E (.Call (.Name x p) (e::es) [] pos) (bL fs m):=by
 refine bA (M.ex) fun f fd mk F hb=>?_;exact CV mk F M.of (hr.mono hkj) hg M.mgx hb hx ha fun t ht=>Db mk F (hr.mono hkj) hg M.mgx hb .nil hx ht hdb he hpl
end
theorem xb {i:Nat}{ρ:DS}{c:Addr}:ab i ρ≠ .exc c:=by
 unfold ab;split <;> intro h <;> cases h
theorem va {a b:D}{c:Addr}:aL a b≠ .exc c:=by
 unfold aL
 repeat' split
 all_goals (intro h;cases h)
theorem Ek {μ:List Nat}{i:Nat}{k:Int}:∀ρ c,dQ μ (ae (ab i) (kI k) aL) ρ≠ .exc c:=by
 intro ρ c h;have h:((ab i (gZ μ ρ)).bind fun a=>aL a (.int k))= .exc c:=h;cases q:ab i (gZ μ ρ) with
 |ok d=>rw[q]at h;exact va h
 |exc e=>exact xb q
 |bad=>rw[q]at h;cases h
section
variable{X:Cx}{E:XK}
end
noncomputable def w6 (K:W.Frag):Sp:=fun vs H Q _=>∃(ad:Addr) (sc:List Int),vs=[.ref ad]∧sc.length≤63∧gC K H ad (sc.map V.int)∧∀H',Q (.bl true) H'
section
variable{P:Program}{w:World}{K:W.Frag}{mg:Str→Option Value}{base:Heap}{r:Nat}
theorem CO {k:Nat}{f:Addr}{fd:FuncData}{m:List D→Res D}(F:FnOk P w K mg base (CXF P w) k f fd ["script"] (freshSp K 0 m))(h:∀ns:List Int,ns.length≤63→m [.scr ns]= .ok (.bl true)):FnOk P w K mg base (CXF P w) k f fd ["script"] (w6 K):=
 F.imp fun vs H Q E hZ172=>by
  refine pG (hZ172) fun ad sc e hl sq q=>?_;subst e;refine⟨[.scr sc],H,.refl _,.cons (by unfold Rep;exact⟨ad,rfl,sq⟩) .nil,by rw[h sc hl];trivial,fun d ed v G' H' S _ o _=>?_⟩;rw[h sc hl]at ed;cases ed;have o2:=o.2;rw[rep_bl]at o2;rw[o2];exact q H'
theorem Fun.freshM {x qual:Str}{st:Stmt}{f:Addr}{fd:FuncData}{N ps:List Str}{k n:Nat}{F:DS→Out}(Fn:Fun K x qual st f fd)(sc:FnScope N ps (ag st))(μ:List Nat)(hμ:∀i,i<ps.length→μ.getD i 0=0)(hn:ps.length=n)
  (hbody:∀(cdv:Value) (A:Around) (outer:List Env) (s:Shared) (H:Hp) (E:XK),Room k (A.deeper (envOfC qual (ag st) s.heap.objs.size f cdv))→
   uK (yR P w K mg base N qual (ag st) f cdv A outer s H E) E μ r (cL st) F):FnOk P w K mg base (CXF P w) (k+1) f fd ps (freshSp K r (gU n N F)):=by
 refine Fn.fresh sc μ hμ (fun ds h=>?_) (fun cdv A outer s H E hr=>⟨F,hbody cdv A outer s H E hr,fun ds h=>?_⟩)
 ·unfold gU at h;split at h
  ·rename_i e;rw[e,hn]
  ·exact absurd rfl h
 ·unfold gU at h ⊢;split at h
  ·rename_i e;rw[if_pos e]
  ·exact absurd rfl h
end
theorem tQ {K:W.Frag}{t:Value}:W.kitOne K t t=some true:=by
 unfold W.kitOne;rw[if_pos (beq_iff_eq.mpr rfl)]
theorem FH {K:W.Frag}:W.kitOne K (.type "int") (.type "bool")=some false:=by
 unfold W.kitOne;rw[if_neg (by decide +kernel)];unfold W.kitCls;dsimp only;rw[if_pos (by decide +kernel)];show Option.map (fun x=>x.contains (Value.type "bool")) (fastBuiltinMro "int")=some false;decide +kernel
theorem xu {P:Program}{w:World}{H:Hp}{s:Shared}{e:Value}{s':Shared}(h:CXF P w [] H s (fun _ _ _=>False) e s'):False:=by
 obtain⟨_,_,_,_,_,_,_,_,_,_,_,_,_,_,q⟩:=h;exact q
theorem zS (k:Nat){l:W.OpenLaw}{q:Program}{loose:List Str}{XP:(Str→Option Value)→Heap→Prop}{YP:World→Heap→Prop}{d:DefRec}{K:Params→W.Frag}(hr:Room k callerA)(hn:l.most=some 63)(hdf:d.params.defaults=[])
  (hY:∀(w:World) (h:Heap),YP w h→(K w.params).In h)
  (F:∀(w:World) (mg:Str→Option Value) (fa:Addr) (h:Heap),(K w.params).In h→h.Ns mainGlobals mg→mg d.name=some (.ref fa)→
   ∃fd:FuncData,(∀(s:Shared) (u:Value),BindsTo s fd ⟨[u],[]⟩ [("script",u)])∧∀base:Heap,(K w.params).In base→base.Ns mainGlobals mg→FnOk l.prog w (K w.params) mg base (CXF l.prog w) k fa fd ["script"] (w6 (K w.params))) :
  W.WalkO q loose XP YP l.row.toRowW d [] (fun f vs=>PySem.call f vs):=
 DN (n:=63) (k:=k) (x:= "script") (CX:=fun w=>CXF l.prog w) (sp:=fun w=>w6 (K w.params)) hn (by decide) hdf hr hY F (fun _ _ a ns hl _ hS=>(l9 a ns rfl hl hS (fun _=>rfl))) fun _ _ _ _ _ z=>xu z
end L2
namespace L2
open PySem
section
variable{α:Type}{ρ ρ' ρ1:DS}{μ:List Nat}{n j k m:Nat}{f fi':DS→Res D}{fc:DS→Res Bool}{F R:DS→Out}{fi:DS→Res (List D)}{asg:D→DS→Option DS}{o:Option D}{d e:D}{ds l row:List D}
theorem Ho:dQ μ f ρ=f (gZ μ ρ):=id rfl
theorem EZ:zy μ fi ρ=fi (gZ μ ρ):=id rfl
theorem Ht:oQ n f ρ=(f ρ).bind fun d=>if cC n d=true then .ok d else .bad:=id rfl
theorem EW:gZ (0::μ) (o::ρ)=o::gZ μ ρ:=by unfold gZ;rw[List.mapIdx_cons];rfl
theorem EY:gZ ((n+1)::μ) (o::ρ)=none::gZ μ ρ:=by unfold gZ;rw[List.mapIdx_cons];rfl
theorem EX:gZ μ []=[]:=id rfl
theorem BU:dP fi asg F ρ=(fi ρ).out fun ds=>cm asg F ds ρ:=id rfl
theorem zh:cm asg F [] ρ= .nx ρ:=id rfl
theorem rm (h1:asg d ρ=some ρ1)(h2:F ρ1= .nx ρ'):cm asg F (d::ds) ρ=cm asg F ds ρ':=by
 conv=>lhs;unfold cm
 rw[h1];dsimp only;rw[h2]
theorem Cn (h1:asg d ρ=some ρ1)(h2:F ρ1= .rt e):cm asg F (d::ds) ρ= .rt e:=by
 conv=>lhs;unfold cm
 rw[h1];dsimp only;rw[h2]
theorem ot (I:List D→DS→Prop)(step:∀d ds ρ,I (d::ds) ρ→∃ρ1 ρ',asg d ρ=some ρ1∧F ρ1= .nx ρ'∧I ds ρ'):∀ds ρ,I ds ρ→∃ρ',cm asg F ds ρ= .nx ρ'∧I [] ρ'
 | [],ρ,h=>⟨ρ,rfl,h⟩
 |d::ds,ρ,h=>by
  refine bA (step d ds ρ h) fun ρ1 ρ' h1 h2 h3=>?_;obtain⟨ρ2,h4,h5⟩:=ot I step ds ρ' h3;exact⟨ρ2,(rm h1 h2).trans h4,h5⟩
theorem lm {x:Res D}(I:List D→DS→Prop)(h:I ds ρ)(step:∀d ds ρ,I (d::ds) ρ→∃ρ1 ρ',asg d ρ=some ρ1∧F ρ1= .nx ρ'∧I ds ρ')(fin:∀ρ',I [] ρ'→fQ (R ρ')=x):fQ ((cm asg F ds ρ).then R)=x:=by
 obtain⟨ρ',e,h'⟩:=ot I step ds ρ h;rw[e];exact fin ρ' h'
theorem xJ {P:D→Prop}(I:List D→DS→Prop)(h:I ds ρ)(step:∀d ds ρ,I (d::ds) ρ→∃ρ1 ρ',asg d ρ=some ρ1∧F ρ1= .nx ρ'∧I ds ρ')(fin:∀ρ',I [] ρ'→∃x,fQ (R ρ')= .ok x∧P x):∃x,fQ ((cm asg F ds ρ).then R)= .ok x∧P x:=by
 obtain⟨ρ',e,h'⟩:=ot I step ds ρ h;rw[e];exact fin ρ' h'
theorem jS {l:List (List Int)}:cC 1 (.lst (l.map fun t=>.tup (t.map D.int)))=true:=by
 unfold cC;rw[all_eq_true];intro d hd;obtain⟨t,_,rfl⟩:=mem_map.mp hd;exact iM t
theorem lh {i:Int}:cC 0 (.int i)=true:=by unfold cC flat;rfl
theorem tu {t:List Int}:cC 0 (.tup (t.map D.int))=true:=iM t
theorem oz {st:List α→DS→Prop}{c:α→D}:∀(xs pre:List α) (ρ:DS),st pre ρ→(∀pre' x post,pre ++ xs=pre' ++ x::post→∀ρ,st pre' ρ→∃ρ1,asg (c x) ρ=some ρ1∧∃ρ',F ρ1= .nx ρ'∧st (pre' ++ [x]) ρ')→∃ρ',cm asg F (xs.map c) ρ= .nx ρ'∧st (pre ++ xs) ρ':=by
 intro l_
 induction l_ with
 |nil=>
  rintro pre ρ h _;exact⟨ρ,rfl,by rw[append_nil];exact h⟩
 |cons x xs ihh=>
  rintro pre ρ h step;refine cps fun PP kP=>?_;obtain⟨ρ1,h1,ρ',h2,h3⟩:=step pre x xs rfl ρ h;obtain⟨ρ2,h4,h5⟩:=ihh (pre ++ [x]) ρ' h3 fun pre' y post e=>step pre' y post (by rw[←e,append_assoc];rfl);refine kP ?_;clear kP PP;refine⟨ρ2,(rm h1 h2).trans h4,?_⟩;rw[append_assoc]at h5;exact h5
theorem fU {x:Res D}{xs:List α}{c:α→D}(st:List α→DS→Prop)(h:st [] ρ)(step:∀pre y post,xs=pre ++ y::post→∀ρ,st pre ρ→∃ρ1,asg (c y) ρ=some ρ1∧∃ρ',F ρ1= .nx ρ'∧st (pre ++ [y]) ρ')(fin:∀ρ',st xs ρ'→fQ (R ρ')=x):fQ ((cm asg F (xs.map c) ρ).then R)=x:=by
 obtain⟨ρ',e,h'⟩:=oz (asg:=asg) (F:=F) (c:=c) xs [] ρ h step;rw[e];exact fin ρ' h'
theorem qz {P:DS→Prop}{xs:List α}{c:α→D}(st:List α→DS→Prop)(h:st [] ρ)(step:∀pre y post,xs=pre ++ y::post→∀ρ,st pre ρ→∃ρ1,asg (c y) ρ=some ρ1∧∃ρ',F ρ1= .nx ρ'∧st (pre ++ [y]) ρ')(fin:∀ρ',st xs ρ'→∃ρ'',R ρ'= .nx ρ''∧P ρ''):∃ρ'',(cm asg F (xs.map c) ρ).then R= .nx ρ''∧P ρ'':=by
 obtain⟨ρ',e,h'⟩:=oz (asg:=asg) (F:=F) (c:=c) xs [] ρ h step;rw[e];exact fin ρ' h'
theorem jX {P:DS→Prop}{xs:List α}{c:α→D}(st:List α→DS→Prop)(h:st [] ρ)(step:∀pre y post,xs=pre ++ y::post→∀ρ,st pre ρ→∃ρ1,asg (c y) ρ=some ρ1∧∃ρ',F ρ1= .nx ρ'∧st (pre ++ [y]) ρ')(fin:∀ρ',st xs ρ'→P ρ'):∃ρ'',cm asg F (xs.map c) ρ= .nx ρ''∧P ρ'':=by
 obtain⟨ρ',e,h'⟩:=oz (asg:=asg) (F:=F) (c:=c) xs [] ρ h step;exact⟨ρ',e,fin ρ' h'⟩
theorem pF (I:Nat→DS→Prop)(Dn:DS→Prop)(h:∀n ρ,I n ρ→(fc ρ= .ok false∧Dn ρ)∨(fc ρ= .ok true∧∃m ρ',n=m+1∧F ρ= .nx ρ'∧I m ρ')):∀(n k:Nat) (ρ:DS),n<k→I n ρ→∃ρ',cy fc F k ρ= .nx ρ'∧Dn ρ'
 |n,k+1,ρ,hk,hI=>by
  rcases h n ρ hI with ⟨h1,h2⟩|⟨h1,m,ρ',rfl,h2,h3⟩
  ·refine⟨ρ,?_,h2⟩
   conv=>lhs;unfold cy
   rw[h1];rfl
  ·obtain⟨ρ2,h4,h5⟩:=pF I Dn h m k ρ' (by omega) h3;refine⟨ρ2,?_,h5⟩;rw[←h4]
   conv=>lhs;unfold cy
   rw[h1,bj,if_pos rfl,h2]
theorem jL {x:Res D}(I:Nat→DS→Prop)(Dn:DS→Prop)(n:Nat)(hn:n<k)(h0:I n ρ)(h:∀n ρ,I n ρ→(fc ρ= .ok false∧Dn ρ)∨(fc ρ= .ok true∧∃m ρ',n=m+1∧F ρ= .nx ρ'∧I m ρ'))(fin:∀ρ',Dn ρ'→fQ (R ρ')=x):fQ ((cy fc F k ρ).then R)=x:=by
 obtain⟨ρ',e,h'⟩:=pF I Dn h n k ρ hn h0;rw[e];exact fin ρ' h'
theorem ym {c:α→D}:∀(l:List α) (n:Nat),bU n (l.map c)=(l.zipIdx n).map fun q=>.tup [.int (q.2:Int),c q.1]:=by
 intro l_
 induction l_ with
 |nil=>
  rintro n;exact rfl
 |cons x l ihh=>
  rintro n;rw[map_cons,List.zipIdx_cons,map_cons];unfold bU;rw[ihh (n+1)]
theorem eA {c:α→D}{l:List α}:s_ [.lst (l.map c)]= .ok (l.zipIdx.map fun q=>.tup [.int (q.2:Int),c q.1]):=by
 unfold s_;dsimp only;rw[ym]
theorem xg {β:Type}{c:α→D}{c':β→D}:∀(l:List α) (l':List β),j4 (l.map c) (l'.map c')=(l.zip l').map fun q=>.tup [c q.1,c' q.2]
 | [],_=>by unfold j4;rfl
 |_::_,[]=>by unfold j4;rfl
 |a::l,b::l'=>by
  rw[map_cons,map_cons,zip_cons_cons,map_cons];unfold j4;rw[xg l l']
theorem lX {β:Type}{c:α→D}{c':β→D}{l:List α}{l':List β}:pI [.lst (l.map c),.lst (l'.map c')]= .ok ((l.zip l').map fun q=>.tup [c q.1,c' q.2]):=by
 unfold pI;dsimp only;rw[xg]
theorem yr {l:List α}{c:Nat→D}:(List.range l.length).map c=l.zipIdx.map fun q=>c q.2:=by
 have:l.zipIdx.map Prod.snd=List.range l.length:=by rw[zipIdx_map_snd,List.range_eq_range']
 rw[←this,map_map];rfl
theorem sy (h:ab j ρ= .ok d):ρ[j]?=some (some d):=by
 unfold ab at h;split at h
 ·rename_i x e;cases h;exact e
 ·cases h
theorem du (h:n≤100000):aS n=true:=decide_eq_true h
theorem qZ (h:ab j ρ= .ok (.lst l))(hf:f ρ= .ok d)(hl:l.length≤100000):nW j f ρ= .nx (ρ.set j (some (.lst (l ++ [d])))):=by
 unfold nW;rw[sy h];dsimp only;rw[hf,bj,if_pos (du hl)]
theorem wu (h:m<n):tK n (m:Int)=some m:=by
 unfold tK;rw[if_pos (by omega),if_pos (by omega)];simp
theorem rg (h:ab j ρ= .ok (.lst l))(hf:f ρ= .ok d)(hi:fi' ρ= .ok (.int m))(hm:m<l.length):pj j fi' f ρ= .nx (ρ.set j (some (.lst (l.set m d)))):=by
 unfold pj;rw[sy h];dsimp only;rw[hf,bj,hi,bj];unfold r6;dsimp only;rw[wu hm]
theorem wl (h:ab j ρ= .ok (.lst l))(hi:fi' ρ= .ok (.int m))(hf:f ρ= .ok d)(hm:l[m]?=some (.lst row))(hr:row.length≤100000):sf j fi' f ρ= .nx (ρ.set j (some (.lst (l.set m (.lst (row ++ [d])))))):=by
 unfold sf;rw[sy h];dsimp only;rw[hi,bj,hf,bj];unfold r9;dsimp only;rw[wu (cU hm).1];dsimp only;rw[hm];dsimp only;rw[if_pos (du hr)]
theorem jk {fe:DS→Res D}{ft:DS→Res Bool}{caps:List (Option Nat)}{xs:List α}{c:α→D}{p:α→Bool}{g:α→D}(hi:fi ρ= .ok (xs.map c))(hl:xs.length≤100000)
  (h:∀x∈xs,∃ρ',asg (c x) (dn caps ρ)=some ρ'∧ft ρ'= .ok (p x)∧(p x=true→fe ρ'= .ok (g x))):bm fi caps asg ft fe ρ= .ok (.lst ((xs.filter p).map g)):=by
 unfold bm;rw[hi,aD,if_pos (du (by rw[length_map];exact hl))];have go:∀ys:List α,(∀x∈ys,∃ρ',asg (c x) (dn caps ρ)=some ρ'∧ft ρ'= .ok (p x)∧(p x=true→fe ρ'= .ok (g x)))→
   bB (pJ asg (dn caps ρ) ft) (pJ asg (dn caps ρ) fe) (ys.map c)= .ok ((ys.filter p).map g):=by
  intro ys
  induction ys with
  |nil=>intro _;rfl
  |cons y ys ih=>
   intro h;refine cj (h y (mem_cons_self ..)) fun ρ' h1 h2 h3=>?_;have ih:=ih fun x hx=>h x (cR hx);rw[map_cons];unfold bB;have e1:pJ asg (dn caps ρ) ft (c y)= .ok (p y):=by unfold pJ;rw[h1];exact h2
   rw[e1];cases q:p y with
   |true=>
    dsimp only;have e2:pJ asg (dn caps ρ) fe (c y)= .ok (g y):=by unfold pJ;rw[h1];exact h3 q
    rw[e2];dsimp only;rw[ih,aD,filter_cons_of_pos q];rfl
   |false=>
    dsimp only;rw[ih,filter_cons_of_neg (by rw[q];exact Bool.false_ne_true)]
 rw[go xs h,aD]
theorem bf {fe:DS→Res D}{caps:List (Option Nat)}{xs:List α}{c:α→D}{g:α→D}(hi:fi ρ= .ok (xs.map c))(hl:xs.length≤100000)
  (h:∀x∈xs,∃ρ',asg (c x) (dn caps ρ)=some ρ'∧fe ρ'= .ok (g x)):bm fi caps asg yes fe ρ= .ok (.lst (xs.map g)):=by
 have:=jk (p:=fun _=>true) (ft:=yes) hi hl fun x hx=>(h x hx).imp fun ρ' h=>⟨h.1,rfl,fun _=>h.2⟩;rw[List.filter_eq_self.mpr fun _ _=>rfl]at this;exact this
theorem bu {N:List Str}(h:ds.length=n):gU n N F ds=fQ (F (aC N ds)):=if_pos h
theorem bb {g:α→D}{l:List α}{v:α}{i:Nat}(h:l[i]?=some v):aL (.lst (l.map g)) (.int i)= .ok (g v):=on (v9 (by rw[getElem?_map,h];rfl))
theorem dw {g:α→D}{l:List α}:bq [.lst (l.map g)]= .ok (.int l.length):=by rw[q_,length_map]
theorem tV {a:Int}{ns:List Int}:pS [.lst ((a::ns).map D.int)]= .ok (.int (j0 (a::ns))):=by unfold pS;dsimp only;rw[gi]
theorem Aa {a:Int}{ns:List Int}:pT [.lst ((a::ns).map D.int)]= .ok (.int (mi (a::ns))):=by unfold pT;dsimp only;rw[gi]
theorem ww {t:List Int}{ts:List (List Int)}:hV [.lst ((t::ts).map fun t=>.tup (t.map D.int))]= .ok (.tup ((gk t ts).map D.int)):=by unfold hV;dsimp only;rw[je]
theorem Dv {n:Nat}:pf 0 n=(List.range n).map fun (i:Nat)=>D.int (i:Int):=by
 unfold pf;refine map_congr_left fun i _=>?_;rw[Int.zero_add]
theorem eV {n:Nat}(h:n<1000000):sd [.int (n:Int)]= .ok ((List.range n).map fun (i:Nat)=>D.int (i:Int)):=by
 unfold sd;dsimp only;have:cT (n:Int)=true:=by unfold cT;rw[and_eq_true,decide_eq_true_eq,decide_eq_true_eq];omega
 rw[if_pos this,toNat_natCast,Dv]
theorem rf {a b:Int}(h0: -1000000≤a)(h1:a<1000000)(h2: -1000000≤b)(h3:b<1000000):AO [.int a,.int b]= .ok (pf a (b-a).toNat):=by
 unfold AO;dsimp only;have:(cT a&&cT b)=true:=by unfold cT;simp only[and_eq_true,decide_eq_true_eq];omega
 rw[if_pos this]
theorem ra {ns:List Int}:bq [.scr ns]= .ok (.int ns.length):=id rfl
theorem Fc {ns:List Int}{i n:Int}(h:atI ns i=some n):aL (.scr ns) (.int i)= .ok (.int n):=by unfold aL;dsimp only;rw[h]
theorem jl {i j:Int}(h1: -(2 ^ 64)<j)(h2:j<2 ^ 64):fO (.int i) (.int j)= .ok (.int (i*j)):=by
 unfold fO El;rw[Ca h1 h2]
theorem zk {i j:Int}(h1: -(2 ^ 64)<i)(h2:i<2 ^ 64):fO (.int i) (.int j)= .ok (.int (i*j)):=by
 unfold fO El;rw[B_ h1 h2]
noncomputable def cellOf (ns:List Int)(k:Int):Int:=if ns.length=0 then 7 else ns.getD (k % ns.length).toNat 0
noncomputable def jJ (ns:List Int)(k:Int):Int:=(cellOf ns k*48271+(k+1)*7919+ns.length) % 2147483647
noncomputable def IE (ns:List Int)(k:Int):Int:=(jJ ns k*jJ ns k+k*16807+11) % 2147483647
noncomputable def drawn (ns:List Int)(k many:Int):Int:=IE ns k*48271 % 2147483647 / 16 % many
theorem DH {ns:List Int}{k:Int}:0≤jJ ns k∧jJ ns k<2147483647:=⟨Int.emod_nonneg _ (by decide),Int.emod_lt_of_pos _ (by decide)⟩
theorem iK {ns:List Int}{k many:Int}(h:0<many):0≤drawn ns k many∧drawn ns k many<many:=⟨Int.emod_nonneg _ (by omega),Int.emod_lt_of_pos _ h⟩
theorem BG {ns:List Int}{k:Int}(hz:ns.length≠0):atI ns (k % (ns.length:Int))=some (cellOf ns k):=by
 have hm0:0≤k % (ns.length:Int):=Int.emod_nonneg _ (by omega);have hm1:k % (ns.length:Int)<ns.length:=Int.emod_lt_of_pos _ (by omega);refine ki hm0 ?_;have hlt:(k % (ns.length:Int)).toNat<ns.length:=by omega
 rw[cz hlt];unfold cellOf;rw[if_neg hz];simp[List.getD,cz hlt]
end
noncomputable def gM (n:Nat):W.KasT (Array Nat)→Bool
 |.ret p=>decide (p.size=n)&&p.toList.all (fun i=>decide (i<n))&&(List.range n).all fun i=>p.toList.contains i
 |.ask i j k=>decide (i<n)&&decide (j<n)&&gM n (k true)&&gM n (k false)
theorem kK {n:Nat}{lt:Nat→Nat→Bool}:∀(t:W.KasT (Array Nat)),gM n t=true→∃p,kN n lt t=some p∧p.size=n∧(∀i∈p.toList,i<n)∧∀i,i<n→i∈p.toList
 |.ret p,h=>by
  unfold gM at h;simp only[and_eq_true,decide_eq_true_eq,all_eq_true]at h;refine(zH p rfl h.1.1 (fun i hi=>h.1.2 i hi) (fun i hi=>?_));have:=h.2 i (mem_range.mpr hi);exact contains_iff_mem.mp this
 |.ask i j k,h=>by
  unfold gM at h;simp only[and_eq_true,decide_eq_true_eq]at h;obtain⟨⟨⟨h1,h2⟩,h3⟩,h4⟩:=h;have e:kN n lt (.ask i j k)=kN n lt (k (lt i j)):=by
   conv=>lhs;unfold kN
   rw[if_pos ⟨h1,h2⟩]
  rw[e];cases lt i j with
  |true=>exact kK _ h3
  |false=>exact kK _ h4
theorem CI:gM 2 (W.kas_sort 2)=true:=by decide +kernel
theorem CJ:gM 3 (W.kas_sort 3)=true:=by decide +kernel
theorem CK:gM 4 (W.kas_sort 4)=true:=by decide +kernel
theorem CM:gM 5 (W.kas_sort 5)=true:=by decide +kernel
theorem vv {n:Nat}(h2:2≤n)(h5:n≤5):gM n (W.kas_sort n)=true:=by
 rcases (show n=2∨n=3∨n=4∨n=5 by omega) with rfl|rfl|rfl|rfl
 ·exact CI
 ·exact CJ
 ·exact CK
 ·exact CM
theorem yz (l:List (List Int))(h:l.length≤5)(hne:∀t∈l,t≠[]):∃l':List (List Int),b7 [.lst (l.map fun t=>.tup (t.map D.int))]= .ok (.lst (l'.map fun t=>.tup (t.map D.int)))∧l'.length=l.length∧∀t,t∈l'↔t∈l:=by
 by_cases h2:l.length<2
 ·refine(gW l ?_ rfl (fun _=>Iff.rfl));unfold b7;dsimp only;rw[if_pos (by rw[length_map];exact h2)]
 ·refine IP (kK (lt:=fun i j=>HT.aK (l.getD i []) (l.getD j [])) _ (vv (by omega) h)) fun p e h3 h4 h5=>?_;refine(gW (p.toList.map fun i=>l.getD i []) ?_ (by rw[length_map,length_toList];exact h3) (fun t=>?_))
  ·unfold b7;dsimp only;rw[if_neg (by rw[length_map];exact h2),je];dsimp only;rw[if_pos,e]
   ·dsimp only;rw[if_pos,map_map]
    ·rfl
    ·exact⟨h3,all_eq_true.mpr fun i hi=>decide_eq_true (h4 i hi)⟩
   ·rw[and_eq_true,all_eq_true];refine⟨fun t ht=>?_,decide_eq_true (by omega)⟩;cases t with
    |nil=>exact absurd rfl (hne [] ht)
    |cons _ _=>rfl
  ·rw[mem_map];constructor
   ·intro hZ24;obtain⟨i,hi,rfl⟩:=hZ24;have hl:=h4 i hi;rw[getD_eq_getElem?_getD,cz hl];exact getElem_mem hl
   ·intro ht;obtain⟨i,hi,e⟩:=getElem_of_mem ht;refine⟨i,h5 i hi,?_⟩;rw[getD_eq_getElem?_getD,cz hi];exact e
end L2
namespace L2
open PySem PySem.Spec PyProof.Rows
theorem AllW.zero {K:W.Frag}{G H:Hp}:∀{ds:List D} {vs:List V} {S:List Addr},AllW (Ow K G H 0) ds vs S→S=[]∧RepL K G ds vs:=by
 intro l_
 induction l_ with
 |nil=>
  rintro _ _ h;exact by rw[h.1,h.2];exact⟨rfl,.nil⟩
 |cons d ds ihh=>
  rintro _ _ h;refine pH (h) fun v r A B e1 e2 h1 h2=>?_;obtain⟨e3,h3⟩:=ihh h2;subst e1 e2 e3;rw[h1.1];exact⟨rfl,.cons h1.2 h3⟩
theorem AllW.of0 {K:W.Frag}{G H:Hp}:∀{ds:List D} {vs:List V},RepL K G ds vs→AllW (Ow K G H 0) ds vs []:=by
 intro l_
 induction l_ with
 |nil=>
  rintro _ h;exact⟨h.inv0,rfl⟩
 |cons d ds ihh=>
  rintro _ h;refine bA (h.inv) fun v r hS151 h1 h2=>?_;subst hS151;exact(oE v r ([]) ([]) rfl rfl ⟨rfl,h1⟩ (ihh h2))
section
variable{X:Cx}{E:XK}{μ:List Nat}{n:Nat}
variable{q:Nat}
end
section
variable{X:Cx}{E:XK}{μ:List Nat}{n:Nat}
end
theorem Rw.forget {K:W.Frag}{μ:List Nat}{Ge B G H:Hp}{σ:St}{ρ:DS}{fp:Nat→List Addr}{i:Nat}{o:Option V}(R:Rw K μ Ge B G H σ ρ fp):Rw K μ Ge B G H (σ.set i o) (ρ.set i none) (fun j=>if j=i then [] else fp j):=by
 have Z:=R.drop (i:=i);refine⟨Z.gh,Z.eg,Z.bh,Z.nw,Z.gf,Z.ob,Z.oc,Z.nd,Z.dj,fun k d e=>?_⟩;obtain⟨v,hv,h⟩:=Z.sl k d e;refine⟨v,?_,h⟩;have hk:k≠i:=fun z=>by
  subst z;rw[getElem?_set]at e;split at e
  ·split at e <;> cases e
  ·rename_i hne;exact hne rfl
 rw[getElem?_set_ne (Ne.symm hk)];exact hv
section
variable{X:Cx}{E:XK}{μ:List Nat}{n:Nat}
end
section
variable{P:Program}{w:World}{K:W.Frag}{mg:Str→Option Value}{base:Heap}
end
section
variable{P:Program}{w:World}{K:W.Frag}{mg:Str→Option Value}{base:Heap}
end
section
variable{X:Cx}{E:XK}{μ:List Nat}{r n:Nat}
theorem Ow.up {K:W.Frag}{G H:Hp}:∀{n:Nat} {d:D} {v:V} {S:List Addr},cC n d=true→Ow K G H n d v S→Ow K G H (n+1) d v S:=by
 intro l_
 induction l_ with
 |zero=>
  rintro d v S hf h;cases d with
  |lst ds=>cases hf
  |dct ks ds=>cases hf
  |tup ds=>exact .inl ⟨hf,h.1,h.2⟩
  |_=>exact⟨hf,h.1,h.2⟩
 |succ n ihh=>
  rintro d v S hf h;cases d with
  |lst ds=>
   refine ja (h) fun a xs T e1 e2 e3 h1=>?_;unfold cC at hf;exact(jb a xs T e1 e2 e3 (h1.mono fun d v A hd _ z=>ihh (all_eq_true.mp hf d hd) z))
  |dct ks ds=>
   refine ie (h) fun a xs T e1 e2 e4 e3 h1=>?_;unfold cC at hf;exact(nC a xs T e1 e2 e4 e3 (h1.mono fun d v A hd _ z=>ihh (all_eq_true.mp hf d hd) z))
  |tup ds=>
   rcases h with h|⟨a,xs,T,e1,e2,e3,e5,h1⟩
   ·exact .inl h
   ·refine .inr (nC a xs T e1 e2 e3 e5 (h1.mono fun d v A hd _ z=>ihh ?_ z));unfold cC at hf;rw[or_eq_true]at hf
    rcases hf with y|y
    ·unfold L2.flat at y;exact g_ (lY y hd)
    ·exact all_eq_true.mp y d hd
  |_=>exact h
theorem PN.up {e:Expr}{f:DS→Res D}(h:PN X E n e f):PN X E (n+1) e (oQ n f):=by
 intro pins s σ G H ρ I hs hr ho;refine aO (h pins s σ G H ρ I hs hr ho.fst) fun u s' hZ173=>?_;obtain⟨d,e,v,G',H',S,I',rv,x,o,w⟩:=hZ173;have k:=ho.snd e (Same.refl H);by_cases hl:cC n d=true
 ·exact⟨d,al e (if_pos hl),v,G',H',S,I',rv,x,o.up hl,w⟩
 ·rw[if_neg hl]at k;exact k.elim
inductive tNA (K:W.Frag)(E:XK)(n:Nat)(f:DS→Res (List D))(σ:St)(H:Hp)(Q:List V→Hp→Prop):Prop
 |mk (G:Hp) (ρ:DS) (s:Same G H) (r:Ro K G σ ρ) (o:OkR E H (f ρ)) (k:∀ds,f ρ= .ok ds→∀vs G' H' S,Ext G H G' H'→AllW (Ow K G' H' n) ds vs S→New H G' S→Q vs H')
noncomputable def IT (X:Cx)(E:XK)(n:Nat)(es:List Expr)(f:DS→Res (List D)):Prop:=PA X es (tNA X.K E n f)
theorem Dm:IT X E n [] pN:=fun pos pins s σ H Q I hZ174=>(by obtain⟨G,ρ,hs,hro,ho,k⟩:=hZ174;exact Calls.spliced_nil ⟨[],H,I,.nil,k [] rfl [] G H [] (.refl hs) ⟨rfl,rfl⟩ .nil⟩)
theorem ub {e:Expr}{es:List Expr}{f:DS→Res D}{g:DS→Res (List D)}(h:PN X E n e f)(hes:IT X E n es g)(hs:starEach (e::es) X.env=(false,eval e X.env)::starEach es X.env:=by rfl):IT X E n (e::es) (pC f g):=by
 intro pos pins s σ H Q I hZ25;obtain⟨G,ρ,hsm,hro,ho,k⟩:=hZ25;refine dG (Av h) hes hs pos pins s σ H Q I ⟨G,ρ,hsm,hro,ho.fst,fun d ed v G1 H1 S x1 o w=>⟨G1,ρ,x1.gh,hro.mono x1.gg,(ho.snd ed x1.hh).fst,fun ds eds vs G2 H2 T x2 os w2=>?_⟩⟩;have hc:∀a∈S,∃u,H1 a=some u∧¬oH u:=fun a ha=>let ⟨u,e,c⟩:=o.cell a ha;⟨u,e,c.nokey⟩
 have w3:=w.step hc x2;exact k (d::ds) (al ed (al eds rfl)) (v::vs) G2 H2 (S ++ T) (x1.trans x2) (oE v vs S T rfl rfl (o.mono x2.gg fun a _ u e=>x2.hh a u e) os) (w3.join w2 hc x1.hh)
theorem gL {i:Nat}:∀ρ c,ab i ρ≠ .exc c:=fun ρ c=>xb
end
end L2
namespace L2
open PySem
theorem Ad {f g:DS→Res D}{o:D→D→Res D}(hf:∀ρ c,f ρ≠ .exc c)(hg:∀ρ c,g ρ≠ .exc c)(ho:∀{a b:D} {c:Addr},o a b≠ .exc c):∀ρ c,ae f g o ρ≠ .exc c:=fun ρ c h=>by
 rw[D_]at h;cases q:f ρ with
 |exc e=>exact hf ρ e q
 |bad=>rw[q]at h;cases h
 |ok a=>
  rw[q,aD]at h;cases q2:g ρ with
  |exc e=>exact hg ρ e q2
  |bad=>rw[q2]at h;cases h
  |ok b=>rw[q2,aD]at h;exact ho h
theorem Bv {a b:D}{c:Addr}:aZ a b≠ .exc c:=by
 unfold aZ El;have h1:∀x y:D,yV x y≠ .exc c:=fun x y h=>by
  unfold yV i6 at h;split at h
  ·split at h <;> cases h
  ·cases h
 have h2:∀x y:D,yW x y≠ .exc c:=fun x y h=>by
  unfold yW at h;split at h
  ·split at h <;> cases h
  ·cases h
 have h3:∀x y:D,xq x y≠ .exc c:=fun x y h=>by
  unfold xq at h;split at h
  ·split at h <;> cases h
  ·cases h
 intro h;split at h
 ·split at h
  ·exact h3 _ _ h
  ·exact h2 _ _ h
 ·exact h1 _ _ h
noncomputable def IU (fs:List (Nat×Nat))(a b:Nat):List (Nat×Nat):=
 (a,b)::fs ++ (fs.filter (fun u=>u.2==a)).map (fun u=>(u.1,b)) ++ (fs.filter (fun u=>u.1==b)).map (fun u=>(a,u.2)) ++
  (fs.filter (fun u=>u.2==a)).flatMap fun u=>(fs.filter (fun v=>v.1==b)).map fun v=>(u.1,v.2)
noncomputable def m7 (n:Nat):List (Nat×Nat)→W.KasT (Array Nat)→Bool
 |fs,.ret p=>decide (p.size=n)&&p.toList.all (fun i=>decide (i<n))&&(List.range n).all (fun i=>p.toList.contains i)&&decide p.toList.Nodup &&
   (p.toList.zip p.toList.tail).all fun u=>fs.contains u
 |fs,.ask i j k=>decide (i<n)&&decide (j<n)&&decide (i≠j)&&(if fs.contains (i,j) then m7 n fs (k true) else if fs.contains (j,i) then m7 n fs (k false) else m7 n (IU fs i j) (k true)&&m7 n (IU fs j i) (k false))
theorem y_ {lt:Nat→Nat→Bool}(tr:∀a b c,lt a b=true→lt b c=true→lt a c=true){fs:List (Nat×Nat)}{a b:Nat}(hf:∀f∈fs,lt f.1 f.2=true)(h:lt a b=true):∀f∈IU fs a b,lt f.1 f.2=true:=by
 intro f hfm;unfold IU at hfm
 rcases mem_append.mp hfm with z|z
 ·rcases mem_append.mp z with z|z
  ·rcases mem_append.mp z with z|z
   ·rcases mem_cons.mp z with z|z
    ·subst z;exact h
    ·exact hf f z
   ·obtain⟨u,hu,rfl⟩:=mem_map.mp z;obtain⟨h1,h2⟩:=mem_filter.mp hu;have e:u.2=a:=by simpa using h2
    have:=hf u h1;rw[e]at this;exact tr _ _ _ this h
  ·obtain⟨u,hu,rfl⟩:=mem_map.mp z;obtain⟨h1,h2⟩:=mem_filter.mp hu;have e:u.1=b:=by simpa using h2
   have:=hf u h1;rw[e]at this;exact tr _ _ _ h this
 ·refine cps fun PP kP=>?_;obtain⟨u,hu,z⟩:=mem_flatMap.mp z;obtain⟨v,hv,rfl⟩:=mem_map.mp z;obtain⟨h1,h2⟩:=mem_filter.mp hu;obtain⟨h3,h4⟩:=mem_filter.mp hv;refine kP ?_;clear kP PP;have e:u.2=a:=by simpa using h2
  have e2:v.1=b:=by simpa using h4
  have q1:=hf u h1;have q2:=hf v h3;rw[e]at q1;rw[e2]at q2;exact tr _ _ _ (tr _ _ _ q1 h) q2
theorem jB {n:Nat}{lt:Nat→Nat→Bool}(tr:∀a b c,lt a b=true→lt b c=true→lt a c=true)(asy:∀a b,lt a b=true→lt b a=false)(tot:∀a b,a<n→b<n→a≠b→lt a b=false→lt b a=true):∀(t:W.KasT (Array Nat)) (fs:List (Nat×Nat)),(∀f∈fs,lt f.1 f.2=true)→m7 n fs t=true→
  ∃p,kN n lt t=some p∧p.size=n∧(∀i∈p.toList,i<n)∧(∀i,i<n→i∈p.toList)∧p.toList.Nodup∧∀u∈p.toList.zip p.toList.tail,lt u.1 u.2=true
 |.ret p,fs,hf,h=>by
  unfold m7 at h;simp only[and_eq_true,decide_eq_true_eq,all_eq_true]at h;obtain⟨⟨⟨⟨h1,h2⟩,K⟩,h4⟩,h5⟩:=h;exact(HP p rfl h1 (fun i hi=>h2 i hi) (fun i hi=>contains_iff_mem.mp (K i (mem_range.mpr hi))) h4 (fun u hu=>hf u (contains_iff_mem.mp (h5 u hu))))
 |.ask i j k,fs,hf,h=>by
  unfold m7 at h;simp only[and_eq_true,decide_eq_true_eq]at h;obtain⟨⟨⟨h1,h2⟩,hij⟩,K⟩:=h;have e:kN n lt (.ask i j k)=kN n lt (k (lt i j)):=by
   conv=>lhs;unfold kN
   rw[if_pos ⟨h1,h2⟩]
  rw[e];split at K
  ·rename_i c;have q:lt i j=true:=hf (i,j) (contains_iff_mem.mp c);rw[q];exact jB tr asy tot _ fs hf K
  ·split at K
   ·rename_i c;have q:lt i j=false:=asy _ _ (hf (j,i) (contains_iff_mem.mp c));rw[q];exact jB tr asy tot _ fs hf K
   ·rw[and_eq_true]at K;cases q:lt i j with
    |true=>exact jB tr asy tot _ _ (y_ tr hf q) K.1
    |false=>exact jB tr asy tot _ _ (y_ tr hf (tot i j h1 h2 hij q)) K.2
theorem Js:m7 2 [] (W.kas_sort 2)=true:=by decide +kernel
theorem Jt:m7 3 [] (W.kas_sort 3)=true:=by decide +kernel
theorem Ju:m7 4 [] (W.kas_sort 4)=true:=by decide +kernel
theorem Jv:m7 5 [] (W.kas_sort 5)=true:=by decide +kernel
theorem Ae {n:Nat}(h2:2≤n)(h5:n≤5):m7 n [] (W.kas_sort n)=true:=by
 rcases (show n=2∨n=3∨n=4∨n=5 by omega) with rfl|rfl|rfl|rfl
 ·exact Js
 ·exact Jt
 ·exact Ju
 ·exact Jv
theorem kH:∀(a b:List Int),HT.aK a b=true→HT.aK b a=false
 | [],[],h=>by cases h
 | [],_::_,_=>rfl
 |_::_,[],h=>by cases h
 |x::xs,y::ys,h=>by
  unfold HT.aK at h ⊢;by_cases e:x=y
  ·subst e;rw[if_pos rfl]at h ⊢;exact kH xs ys h
  ·rw[if_neg e]at h;rw[if_neg (Ne.symm e)];have:=of_decide_eq_true h;exact decide_eq_false (by omega)
theorem mL:∀(a b c:List Int),HT.aK a b=true→HT.aK b c=true→HT.aK a c=true
 | [],[],_,h,_=>by cases h
 | [],_::_,[],_,h=>by cases h
 | [],_::_,_::_,_,_=>rfl
 |_::_,[],_,h,_=>by cases h
 |_::_,_::_,[],_,h=>by cases h
 |x::xs,y::ys,z::zs,h1,h2=>by
  unfold HT.aK at h1 h2 ⊢;by_cases e1:x=y
  ·subst e1;rw[if_pos rfl]at h1;by_cases e2:x=z
   ·subst e2;rw[if_pos rfl]at h2 ⊢;exact mL xs ys zs h1 h2
   ·rw[if_neg e2]at h2 ⊢;exact h2
  ·rw[if_neg e1]at h1;have q1:=of_decide_eq_true h1;by_cases e2:y=z
   ·subst e2;rw[if_neg e1];exact h1
   ·rw[if_neg e2]at h2;have q2:=of_decide_eq_true h2;rw[if_neg (show x≠z by omega)];exact decide_eq_true (by omega)
theorem qq:∀(a b:List Int),a≠b→HT.aK a b=false→HT.aK b a=true
 | [],[],h,_=>absurd rfl h
 | [],_::_,_,h=>by cases h
 |_::_,[],_,_=>rfl
 |x::xs,y::ys,hne,h=>by
  unfold HT.aK at h ⊢;by_cases e:x=y
  ·subst e;rw[if_pos rfl]at h ⊢;exact qq xs ys (fun z=>hne (by rw[z])) h
  ·rw[if_neg e]at h;rw[if_neg (Ne.symm e)];have:=of_decide_eq_false h;exact decide_eq_true (by omega)
theorem vO (l:List (List Int))(h:l.length≤5)(hne:∀t∈l,t≠[])(hnd:l.Nodup):∃l':List (List Int),b7 [.lst (l.map fun t=>.tup (t.map D.int))]= .ok (.lst (l'.map fun t=>.tup (t.map D.int)))∧l'.length=l.length∧(∀t,t∈l'↔t∈l)∧l'.Nodup∧∀u∈l'.zip l'.tail,HT.aK u.2 u.1=false:=by
 by_cases h2:l.length<2
 ·refine(Cw l ?_ rfl (fun _=>Iff.rfl) hnd (fun u hu=>?_))
  ·unfold b7;dsimp only;rw[if_pos (by rw[length_map];exact h2)]
  ·match l,h2,hu with
   | [],_,hu=>simp at hu
   | [_],_,hu=>simp at hu
   |_::_::_,h2,_=>simp at h2;omega
 ·have gd:∀i,(d:i<l.length)→l.getD i []=l[i]:=fun i d=>by rw[getD_eq_getElem?_getD,cz d];rfl
  refine GU (jB (lt:=fun i j=>HT.aK (l.getD i []) (l.getD j [])) (fun a b c=>mL _ _ _) (fun a b=>kH _ _) (fun a b ha hb hab=>qq _ _ (by rw[gd a ha,gd b hb];exact fun z=>hab ((getElem_inj hnd).mp z))) _ [] (fun _ z=>by cases z) (Ae (by omega) h)) fun p e h3 h4 h5 h6 h7=>?_;refine(Cw (p.toList.map fun i=>l.getD i []) ?_ (by rw[length_map,length_toList];exact h3) (fun t=>?_) ?_ (fun u hu=>?_))
  ·unfold b7;dsimp only;rw[if_neg (by rw[length_map];exact h2),je];dsimp only;rw[if_pos,e]
   ·dsimp only;rw[if_pos,map_map]
    ·rfl
    ·exact⟨h3,all_eq_true.mpr fun i d=>decide_eq_true (h4 i d)⟩
   ·rw[and_eq_true,all_eq_true];refine⟨fun t ht=>?_,decide_eq_true (by omega)⟩;cases t with
    |nil=>exact absurd rfl (hne [] ht)
    |cons _ _=>rfl
  ·rw[mem_map];constructor
   ·intro hZ26;obtain⟨i,d,rfl⟩:=hZ26;have hl:=h4 i d;rw[getD_eq_getElem?_getD,cz hl];exact getElem_mem hl
   ·intro ht;obtain⟨i,d,e⟩:=getElem_of_mem ht;refine⟨i,h5 i d,?_⟩;rw[getD_eq_getElem?_getD,cz d];exact e
  ·refine pairwise_map.mpr ((List.Pairwise.imp_of_mem ?_ h6));intro i j d hj hij z;have li:=h4 i d;have lj:=h4 j hj;rw[getD_eq_getElem?_getD,cz li,getD_eq_getElem?_getD,cz lj]at z;exact hij ((getElem_inj hnd).mp z)
  ·rw[←map_tail,zip_map]at hu;obtain⟨v,hv,rfl⟩:=mem_map.mp hu;exact kH _ _ (h7 v hv)
noncomputable def JT:=And.intro @uU (And.intro @Fo (And.intro @Hs (And.intro @D_ (And.intro @Hn (And.intro @EQ (And.intro @lV (And.intro @Ck (And.intro @Cl (And.intro @Cf (And.intro @Cg (And.intro @aD (And.intro @tt (And.intro @bj (And.intro @uT (And.intro @uV (And.intro @uW (And.intro @tz (And.intro @tw (And.intro @zl (And.intro @xC (And.intro @q_ (And.intro @BV (And.intro @Hu (And.intro @DZ (And.intro @Hr (And.intro @Hq (And.intro @EN (And.intro @Fq (And.intro @EO (And.intro @Hv (And.intro @Fm (And.intro @BR (And.intro @EV (And.intro @Fj (And.intro @ET (And.intro @BP (And.intro @Cb (And.intro @BZ (And.intro @BX (And.intro @BW (And.intro @Ci (And.intro @BY (And.intro @zm (And.intro @Fr (And.intro @E_ (And.intro @Cc (And.intro @xA (And.intro @Fd (And.intro @ER (And.intro @Cj (And.intro @Ce (And.intro @Hw (And.intro @Fl (And.intro @Ch (And.intro @qi (And.intro @zn (And.intro @qj (And.intro @zi (And.intro @zj (And.intro @Fp (And.intro @Fe (And.intro @Ff (And.intro @Fg (And.intro @Fh (And.intro @Fi (And.intro @ra (And.intro @EU (And.intro @Fk (And.intro @Ho (And.intro @EZ (And.intro @Ht (And.intro @EW (And.intro @EY (And.intro @EX (And.intro @BU (And.intro @zh (And.intro @ol @lq)))))))))))))))))))))))))))))))))))))))))))))))))))))))))))))))))))))))))))))
def aJ:=And.intro JT (And.intro @if_true.{1} (And.intro @if_false.{1} (And.intro @false_eq_true (And.intro @Bool.not_true (And.intro @Bool.not_false (And.intro @Bool.true_and (And.intro @Bool.false_and (And.intro @Bool.true_or (And.intro @Bool.false_or (And.intro @pC.eq_1 (And.intro @pN.eq_1 (And.intro @kI.eq_1 (And.intro @kB.eq_1 (And.intro @kS.eq_1 (And.intro @c1.eq_1 (And.intro @sL.eq_1 (And.intro @sT.eq_1 (And.intro @sR1.eq_1 (And.intro @sR2.eq_1 (And.intro @sE.eq_1 (And.intro @sZ.eq_1 (And.intro @oI.eq_1 (And.intro @oN.eq_1 (And.intro @tR.eq_1 (And.intro @nG.eq_1 (And.intro @yes.eq_1 (And.intro @bad1.eq_1 (And.intro @nxt.eq_1 (And.intro @length_map.{0,0} (And.intro @beq_self_eq_true.{0} @bne_self_eq_false.{0}))))))))))))))))))))))))))))))
section
variable{α:Type}{ρ ρ' ρ1:DS}{F R:DS→Out}{asg:D→DS→Option DS}{d:D}
noncomputable def fP (ok:List α→α→Bool):List α→List α→Bool
 |_,[]=>true
 |pre,x::xs=>ok pre x&&fP ok (pre ++ [x]) xs
theorem l0 (d:D){st:List α→DS→Prop}{c:α→D}{ok:List α→α→Bool}:∀(xs pre:List α) (ρ:DS),st pre ρ→
  (∀pre' x post,pre ++ xs=pre' ++ x::post→∀ρ,st pre' ρ→∃ρ1,asg (c x) ρ=some ρ1∧(ok pre' x=true→∃ρ',F ρ1= .nx ρ'∧st (pre' ++ [x]) ρ')∧(ok pre' x=false→F ρ1= .rt d))→
  (fP ok pre xs=true→∃ρ',cm asg F (xs.map c) ρ= .nx ρ'∧st (pre ++ xs) ρ')∧(fP ok pre xs=false→cm asg F (xs.map c) ρ= .rt d)
 | [],pre,ρ,h,_=>⟨fun _=>⟨ρ,rfl,by rw[append_nil];exact h⟩,fun z=>by cases z⟩
 |x::xs,pre,ρ,h,step=>by
  refine cj (step pre x xs rfl ρ h) fun ρ1 h1 h2 h3=>?_;have e:fP ok pre (x::xs)=(ok pre x&&fP ok (pre ++ [x]) xs):=rfl;rw[e];cases q:ok pre x with
  |false=>exact⟨fun z=>(by cases z),fun _=>Cn h1 (h3 q)⟩
  |true=>
   rw[Bool.true_and];obtain⟨ρ',h4,h5⟩:=h2 q;have ih:=l0 d (c:=c) (ok:=ok) xs (pre ++ [x]) ρ' h5 fun pre' y post e=>step pre' y post (by rw[←e,append_assoc];rfl);have ef:cm asg F ((x::xs).map c) ρ=cm asg F (xs.map c) ρ':=rm h1 h4;rw[ef];refine⟨fun z=>?_,ih.2⟩;obtain⟨ρ2,h6,h7⟩:=ih.1 z;refine⟨ρ2,h6,?_⟩;rw[append_assoc]at h7;exact h7
theorem qD {x:Res D}{xs:List α}{c:α→D}(st:List α→DS→Prop)(ok:List α→α→Bool)(d:D)(h:st [] ρ)
  (step:∀pre y post,xs=pre ++ y::post→∀ρ,st pre ρ→∃ρ1,asg (c y) ρ=some ρ1∧(ok pre y=true→∃ρ',F ρ1= .nx ρ'∧st (pre ++ [y]) ρ')∧(ok pre y=false→F ρ1= .rt d))
  (fin:fP ok [] xs=true→∀ρ',st xs ρ'→fQ (R ρ')=x) (fal:fP ok [] xs=false→ .ok d=x):fQ ((cm asg F (xs.map c) ρ).then R)=x:=by
 obtain⟨h1,h2⟩:=l0 d (asg:=asg) (F:=F) (c:=c) (ok:=ok) xs [] ρ h step;cases q:fP ok [] xs with
 |true=>
  obtain⟨ρ',e,h'⟩:=h1 q;rw[e];exact fin q ρ' h'
 |false=>
  rw[h2 q];exact fal q
theorem uv {P:DS→Prop}{xs:List α}{c:α→D}(st:List α→DS→Prop)(ok:List α→α→Bool)(h:st [] ρ)
  (step:∀pre y post,xs=pre ++ y::post→∀ρ,st pre ρ→∃ρ1,asg (c y) ρ=some ρ1∧(ok pre y=true→∃ρ',F ρ1= .nx ρ'∧st (pre ++ [y]) ρ')∧(ok pre y=false→F ρ1= .rt d))
  (fin:∀ρ',st xs ρ'→P ρ'):(fP ok [] xs=true→∃ρ',cm asg F (xs.map c) ρ= .nx ρ'∧P ρ')∧(fP ok [] xs=false→cm asg F (xs.map c) ρ= .rt d):=by
 obtain⟨h1,h2⟩:=l0 d (asg:=asg) (F:=F) (c:=c) (ok:=ok) xs [] ρ h step;exact⟨fun z=>let ⟨ρ',e,h'⟩:=h1 z;⟨ρ',e,fin ρ' h'⟩,h2⟩
theorem hZ {p:α→Bool}:∀(xs pre:List α),fP (fun _ x=>p x) pre xs=xs.all p:=by
 intro l_
 induction l_ with
 |nil=>
  rintro _;exact rfl
 |cons x xs ihh=>
  rintro pre;show (p x&&fP (fun _ x=>p x) (pre ++ [x]) xs)=_;rw[ihh,List.all_cons]
end
theorem rX {n:Nat}{α:Type}{f:α→D}:∀(l:List α),(∀x∈l,bc n (f x)=true)→plL n (l.map f)=true:=by
 intro l_
 induction l_ with
 |nil=>
  rintro _;exact by unfold plL;rfl
 |cons x l ihh=>
  rintro h;rw[map_cons];unfold plL;rw[h x (mem_cons_self ..),ihh fun y hy=>h y (cR hy)];rfl
theorem fT {n:Nat}{i:Int}:bc n (.int i)=true:=by unfold bc;rfl
theorem mv {n:Nat}{α:Type}{f:α→D}{l:List α}(h:∀x∈l,bc n (f x)=true):bc (n+1) (.lst (l.map f))=true:=by
 unfold bc;rw[show n+1-1=n from rfl,rX l h,decide_eq_true (by omega)];rfl
theorem rO {d:D}(h:bc 20 d=true):sG d d= .ok (.bl false):=by
 unfold sG;rw[if_pos ⟨h,h⟩,tq h];rfl
section
variable{ρ:DS}{F:DS→Out}{fi fa f:DS→Res D}{l row ds:List D}{j m t n:Nat}{d:D}{N:List Str}
theorem jI {R:DS→Out}{x:Res D}(ρ':DS)(h:F ρ= .nx ρ')(hr:fQ (R ρ')=x):fQ (ax F R ρ)=x:=by
 rw[uU,h];exact hr
end
end L2
namespace L2
open PySem PySem.Spec PyProof.Rows
noncomputable def bG:D→List D
 |.lst l=>l
 |.tup l=>l
 |.dct _ l=>l
 |_=>[]
noncomputable def eN:D→List D→D
 |.lst _,l=>.lst l
 |.tup _,l=>.tup l
 |.dct ks _,l=>.dct ks l
 |d,_=>d
noncomputable def tP:HO→List V
 |.lst xs=>xs
 |.tup xs=>xs
 |.dT kvs=>kvs.map (·.2)
 |_=>[]
noncomputable def bV:List Nat→D→Option D
 | [],d=>some d
 |m::p,d=>match (bG d)[m]? with|some c=>bV p c|none=>none
noncomputable def bK:List Nat→D→D→D
 | [],_,e=>e
 |m::p,d,e=>match (bG d)[m]? with|some c=>eN d ((bG d).set m (bK p c e))|none=>d
noncomputable def valP (H:Hp):List Nat→V→V→Prop
 | [],v,u=>u=v
 |m::p,v,u=>∃a o w,v= .ref a∧H a=some o∧(tP o)[m]?=some w∧valP H p w u
theorem valP.mono {H H':Hp}(s:Same H H'):∀{p:List Nat} {v u:V},valP H p v u→valP H' p v u:=by
 intro l_
 induction l_ with
 |nil=>
  rintro _ _ h;exact h
 |cons _ xs_ ihh=>
  rintro _ _ ⟨a,o,w,e,h,k,r⟩;exact⟨a,o,w,e,s _ _ h,k,ihh r⟩
theorem valP.one {H:Hp}:∀{p:List Nat} {v u u':V},valP H p v u→valP H p v u'→u=u':=by
 intro l_
 induction l_ with
 |nil=>
  rintro _ _ _ h h';exact h.trans h'.symm
 |cons _ xs_ ihh=>
  rintro _ _ _ ⟨a,o,w,e,h,k,r⟩ ⟨a',o',w',e',h',k',r'⟩;subst e;cases e';rw[h]at h';cases h';rw[k]at k';cases k';exact ihh r r'
theorem valP.snoc {H:Hp}{m:Nat}{a:Addr}{o:HO}{w:V}(h:H a=some o)(k:(tP o)[m]?=some w):∀{p:List Nat} {v:V},valP H p v (.ref a)→valP H (p ++ [m]) v w:=by
 intro l_
 induction l_ with
 |nil=>
  rintro _ e;exact(jb a o w e.symm h k rfl)
 |cons _ xs_ ihh=>
  rintro _ ⟨a',o',w',e',h',k',r⟩;exact⟨a',o',w',e',h',k',ihh r⟩
theorem xP {m:Nat}:∀{p:List Nat} {d c:D},bV p d=some c→bV (p ++ [m]) d=(bG c)[m]?:=by
 intro l_
 induction l_ with
 |nil=>
  rintro d c h;cases h;show (match (bG d)[m]? with|some c=>bV [] c|none=>none)=_
  cases (bG d)[m]? <;> rfl
 |cons i p ihh=>
  rintro d c h;show (match (bG d)[i]? with|some c=>bV (p ++ [m]) c|none=>none)=_
  have h':(match (bG d)[i]? with|some c=>bV p c|none=>none)=some c:=h
  cases q:(bG d)[i]? with
  |none=>rw[q]at h';cases h'
  |some e=>rw[q]at h';exact ihh h'
theorem tG {d c:D}{m:Nat}(h:L2.flat d=true)(e:(bG d)[m]?=some c):L2.flat c=true:=by
 cases d with
 |lst l=>unfold L2.flat at h;cases h
 |dct ks l=>unfold L2.flat at h;cases h
 |tup l=>unfold L2.flat at h;exact lY h (mem_of_getElem? e)
 |_=>simp[bG]at e
theorem tF:∀{p:List Nat} {d c:D},L2.flat d=true→bV p d=some c→L2.flat c=true:=by
 intro l_
 induction l_ with
 |nil=>
  rintro d c h e;exact by cases e;exact h
 |cons m p ihh=>
  rintro d c h e;have e':(match (bG d)[m]? with|some c=>bV p c|none=>none)=some c:=e
  cases q:(bG d)[m]? with
  |none=>rw[q]at e';cases e'
  |some k=>rw[q]at e';exact ihh (tG h q) e'
section
variable{K:W.Frag}{G H:Hp}
theorem Ow.kid {n m:Nat}{d c:D}{v:V}{S:List Addr}(h:Ow K G H (n+1) d v S)(e:(bG d)[m]?=some c)(hc:L2.flat c=false) :
  ∃a o T,v= .ref a∧H a=some o∧S=a::T∧AllW (Ow K G H n) (bG d) (tP o) T∧∀(H':Hp) l' T',H' a=some o→T'≠[]→AllW (Ow K G H' n) l' (tP o) T'→Ow K G H' (n+1) (eN d l') v (a::T'):=by
 cases d with
 |lst l=>
  refine ja (h) fun a xs T e1 e2 e3 h1=>?_;exact(nC a _ T e1 e2 e3 h1 (fun H' l' T' h' _ o=>(jb a xs T' e1 h' rfl o)))
 |dct ks l=>
  refine ie (h) fun a xs T e1 e2 e4 e3 h1=>?_;exact(nC a _ T e1 e2 e3 h1 (fun H' l' T' h' _ o=>(nC a xs T' e1 h' e4 rfl o)))
 |tup l=>
  rcases h with h|⟨a,xs,T,e1,e2,e3,e5,h1⟩
  ·rw[tG h.1 e]at hc;cases hc
  ·exact(nC a _ T e1 e2 e3 h1 (fun H' l' T' h' n o=>.inr (nC a xs T' e1 h' rfl n o)))
 |_=>simp[bG]at e
theorem tH {l:List D}:L2.flat (.lst l)=false:=by unfold L2.flat;rfl
theorem zp {ks:List (List bF)}{l:List D}:L2.flat (.dct ks l)=false:=by unfold L2.flat;rfl
theorem Ow.at:∀{p:List Nat} {n:Nat} {d c:D} {v:V} {S:List Addr},Ow K G H (n+p.length) d v S→bV p d=some c→L2.flat c=false→∃u A,valP H p v u∧Ow K G H n c u A:=by
 intro l_
 induction l_ with
 |nil=>
  rintro n d c v S h e hc;exact by cases e;exact(l8 v S rfl h)
 |cons m p ihh=>
  rintro n d c v S h e hc;have e':(match (bG d)[m]? with|some c=>bV p c|none=>none)=some c:=e
  cases q:(bG d)[m]? with
  |none=>rw[q]at e';cases e'
  |some k=>
   rw[q]at e';have hk:L2.flat k=false:=by
    cases z:L2.flat k with
    |false=>rfl
    |true=>rw[tF z e']at hc;cases hc
   refine ie (Ow.kid (n:=n+p.length) h q hk) fun a o T e1 e2 e3 h1 _=>?_;refine pH (h1.at q) fun w A L R g1 g2 g3 g4=>?_;refine mV (ihh g3 e' hc) fun u A' h2 h3=>?_;exact(l8 u A' (jb a o w e1 e2 g1 h2) h3)
theorem pk {α:Type}{l:List α}{m:Nat}{x:α}(h:l[m]?=some x):l.set m x=l:=by
 apply ext_getElem?;intro k;by_cases hk:k=m
 ·subst hk;rw[getElem?_set_self (cU h).1,h]
 ·rw[getElem?_set_ne (Ne.symm hk)]
theorem Ow.path:∀{p:List Nat} {n:Nat} {d:D} {row:List D} {v:V} {S:List Addr},Ow K G H (n+1+p.length) d v S→bV p d=some (.lst row)→S.Nodup→∃b ys U L R,valP H p v (.ref b)∧H b=some (.lst ys)∧S=L ++ (b::U) ++ R∧AllW (Ow K G H n) row ys U∧(∀q t a,p=q ++ t→t≠[]→valP H q v (.ref a)→a≠b)∧∀ys' row' U',AllW (Ow K G (bo H b (.lst ys')) n) row' ys' U'→Ow K G (bo H b (.lst ys')) (n+1+p.length) (bK p d (.lst row')) v (L ++ (b::U') ++ R):=by
 intro l_
 induction l_ with
 |nil=>
  rintro n d row v S h e nd;cases e;refine ja (h) fun a xs T e1 e2 e3 h1=>?_;exact(Fy a xs T ([]) ([]) e1.symm e2 (by rw[e3];simp) h1 (fun q t a e hn=>absurd (List.append_eq_nil_iff.mp e.symm).2 hn) (fun ys' row' U' o=>(jb a ys' U' e1 au (by simp) o)))
 |cons m p ihh=>
  rintro n d row v S h e nd;have e':(match (bG d)[m]? with|some c=>bV p c|none=>none)=some (.lst row):=e
  cases q:(bG d)[m]? with
  |none=>rw[q]at e';cases e'
  |some k=>
   rw[q]at e';have hk:L2.flat k=false:=by
    cases z:L2.flat k with
    |false=>rfl
    |true=>have:=tF z e';rw[tH]at this;cases this
   refine cps fun PP kP=>?_;refine ie (Ow.kid (n:=n+1+p.length) h q hk) fun a o T e1 e2 e3 h1 back=>?_;refine pH (h1.at q) fun w A L R g1 g2 g3 g4=>?_;subst e3;obtain⟨haT,hT⟩:=nodup_cons.mp nd;rw[g2]at hT haT;obtain⟨h2,h3,h4⟩:=nodup_append.mp hT;obtain⟨h5,h6,h7⟩:=nodup_append.mp h2;refine GT (ihh g3 e' h6) fun b ys U L2 R2 k1 k2 k3 k4 k6 k5=>?_;refine kP ?_;clear kP PP;have hbA:b∈A:=by rw[k3];exact mem_append_left _ (mem_append_right _ (mem_cons_self ..))
   have nb:∀c,c∈L∨c∈R→c≠b:=fun c hc z=>by
    subst z
    rcases hc with y|y
    ·exact h7 c y c hbA rfl
    ·exact h4 c (mem_append_right _ hbA) c y rfl
   have hab:a≠b:=fun z=>haT (z ▸ mem_append_left _ (mem_append_right _ hbA));refine(Fy b ys U (a::(L ++ L2)) (R2 ++ R) (jb a o w e1 e2 g1 k1) k2 (by rw[g2,k3];simp[append_assoc]) k4 (fun q t x eq hn hx=>?_) (fun ys' row' U' ou=>?_))
   ·cases q with
    |nil=>cases (show V.ref x=v from hx);cases e1;exact hab
    |cons i q=>
     cases eq;refine ja (hx) fun a2 o2 w2 z1 z2 z3 z4=>?_;subst e1;cases z1;rw[e2]at z2;cases z2;rw[g1]at z3;cases z3;exact k6 q t x rfl hn z4
   have big:=g4 (Ow K G (bo H b (.lst ys')) (n+1+p.length)) (fun d v C hC z=>z.mono (.refl _) fun c hc u eu=>by rw[ak (nb c (hC c hc))];exact eu) (bK p k (.lst row')) w (L2 ++ (b::U') ++ R2) (k5 ys' row' U' ou);rw[pk g1]at big;have fin:=back (bo H b (.lst ys')) ((bG d).set m (bK p k (.lst row'))) (L ++ (L2 ++ (b::U') ++ R2) ++ R) (by rw[ak hab];exact e2) (by intro z;simp at z) big;have es:bK (m::p) d (.lst row')=eN d ((bG d).set m (bK p k (.lst row'))):=by
    show (match (bG d)[m]? with|some c=>eN d ((bG d).set m (bK p c (.lst row')))|none=>d)=_
    rw[q]
   rw[es];have el:a::(L ++ L2) ++ (b::U') ++ (R2 ++ R)=a::(L ++ (L2 ++ (b::U') ++ R2) ++ R):=by simp[append_assoc]
   rw[el];exact fin
end
section
variable{K:W.Frag}{μ:List Nat}{Ge B G H:Hp}{σ:St}{ρ:DS}{fp:Nat→List Addr}{j n:Nat}
theorem Rw.path {p:List Nat}{d:D}{row:List D}(R:Rw K μ Ge B G H σ ρ fp)(hm:μ.getD j 0=n+1+p.length)(hr:ρ[j]?=some (some d))(hp:bV p d=some (.lst row)) :
  ∃v b ys U,σ[j]?=some (some v)∧valP H p v (.ref b)∧H b=some (.lst ys)∧AllW (Ow K G H n) row ys U∧U.Nodup∧b∉U∧b∈fp j∧(∀c∈U,c∈fp j)∧(∀q t a,p=q ++ t→t≠[]→valP H q v (.ref a)→a≠b)∧
   ∀ys' row' U',AllW (Ow K G (bo H b (.lst ys')) n) row' ys' U'→U'.Nodup→(∀c∈U',c∈U∨((G c=none∧B c=none)∧∀i,c∉fp i))→∃fp',Rw K μ Ge B G (bo H b (.lst ys')) σ (ρ.set j (some (bK p d (.lst row')))) fp':=by
 refine cps fun PP kP=>?_;obtain⟨v,hv,o⟩:=R.sl j d hr;rw[hm]at o;refine GT (o.path hp (R.nd j)) fun b ys U L Q h1 h2 h3 h4 h6 h5=>?_;have nd:=R.nd j;rw[h3]at nd;obtain⟨n1,n2,n3⟩:=nodup_append.mp nd;obtain⟨n4,n5,n6⟩:=nodup_append.mp n1;obtain⟨n7,n8⟩:=nodup_cons.mp n5;refine kP ?_;clear kP PP;have sb:b∈fp j:=by rw[h3];exact mem_append_left _ (mem_append_right _ (mem_cons_self ..))
 have sU:∀c∈U,c∈fp j:=fun c r=>by rw[h3];exact mem_append_left _ (mem_append_right _ (cR r))
 have sL:∀c∈L,c∈fp j:=fun c r=>by rw[h3];exact mem_append_left _ (mem_append_left _ r)
 have sQ:∀c∈Q,c∈fp j:=fun c r=>by rw[h3];exact mem_append_right _ r
 refine⟨v,b,ys,U,hv,h1,h2,h4,n8,n7,sb,sU,h6,fun ys' row' U' ou nU hU=>?_⟩;have ndm:(L ++ (b::U') ++ Q).Nodup:=jV nd (nodup_cons.mpr ⟨fun z=>by
   rcases hU b z with y|y
   ·exact n7 y
   ·exact y.2 j sb,nU⟩) fun c r=>by
  rcases mem_cons.mp r with z|z
  ·subst z;exact .inl (mem_cons_self ..)
  ·rcases hU c z with y|y
   ·exact .inl (cR y)
   ·exact .inr ⟨fun x=>y.2 j (sL c x),fun x=>y.2 j (sQ c x)⟩
 have old:∀c∈L ++ (b::U') ++ Q,c∈fp j∨((G c=none∧B c=none)∧∀i,c∉fp i):=fun c r=>by
  rcases mem_append.mp r with z|z
  ·rcases mem_append.mp z with y|y
   ·exact .inl (sL c y)
   ·rcases mem_cons.mp y with x|x
    ·subst x;exact .inl sb
    ·exact(hU c x).imp (sU c) id
  ·exact .inl (sQ c z)
 refine⟨_,R.write (S:=L ++ (b::U') ++ Q) sb hv (by rw[hm];exact h5 ys' row' U' ou) ndm (fun c r=>?_) fun i hi c r hci=>?_⟩
 ·rcases old c r with y|y
  ·exact⟨R.gf j c y,R.ob j c y⟩
  ·exact y.1
 ·rcases old c r with y|y
  ·exact hi (R.dj i j c hci y)
  ·exact y.2 i hci
end
inductive tAt (K:W.Frag)(E:XK)(μ:List Nat)(j:Nat)(g:DS→Res (List Nat))(σ:St)(H:Hp)(Q:VK):Prop
 |mk (Ge B G:Hp) (ρ:DS) (fp:Nat→List Addr) (R:Rw K μ Ge B G H σ ρ fp) (o:OkR E B (g ρ)) (k:∀p,g ρ= .ok p→∀v0 v G' H',σ[j]?=some (some v0)→valP H' p v0 v→Rw K μ Ge B G' H' σ ρ fp→Same G G'→Same H H'→Q v H')
noncomputable def EA (X:Cx)(E:XK)(μ:List Nat)(j:Nat)(e:Expr)(g:DS→Res (List Nat)):Prop:=PE X e (tAt X.K E μ j g)
noncomputable def sF (j:Nat):DS→Res (List Nat):=fun ρ=>match ρ[j]? with|some (some _)=>.ok []|_=>.bad
section
variable{X:Cx}{E:XK}{μ:List Nat}{r n j:Nat}
theorem nY {x:Str}{px:Pos}(hN:X.N[j]?=some x)(hv:yP X.env.scope x)(hd:(x==("__debug__" :Str))=false:=by decide)(hcd:(x==("__classdict__" :Str))=false:=by decide):EA X E μ j (.Name x px) (sF j):=by
 intro pins s σ H Q I hZ27;obtain⟨Ge,B,G,ρ,fp,R,ho,k⟩:=hZ27;have hs:∃d,ρ[j]?=some (some d):=by
  unfold sF at ho;split at ho
  ·rename_i d q;exact⟨d,q⟩
  ·exact ho.elim
 obtain⟨d,hd'⟩:=hs;obtain⟨v,hv',_⟩:=R.sl j d hd';exact iQ hN hv hd hcd pins s σ H Q I ⟨v,hv',k [] (by unfold sF;rw[hd']) v v G H hv' rfl R (.refl _) (.refl _)⟩
theorem Rw.node {K:W.Frag}{Ge B G H:Hp}{σ:St}{ρ:DS}{fp:Nat→List Addr}{p:List Nat}{d c:D}{m:Nat}(R:Rw K μ Ge B G H σ ρ fp)(hm:μ.getD j 0=m+p.length)(hr:ρ[j]?=some (some d))(hp:bV p d=some c)(hc:L2.flat c=false){v0 v:V}(hv:σ[j]?=some (some v0))(h:valP H p v0 v):∃A,Ow K G H m c v A:=by
 obtain⟨w,hw,o⟩:=R.sl j d hr;rw[hv]at hw;cases hw;rw[hm]at o;refine mV (o.at hp hc) fun u A h1 h2=>?_;cases valP.one h h1;exact⟨A,h2⟩
noncomputable def lH (ρ:DS)(j n:Nat)(p:List Nat)(f:List D→Out):Out:=if p.length=n then (match ρ[j]? with
 |some (some t)=>(match bV p t with|some (.lst row)=>f row|_=>.bad)
 |_=>.bad) else .bad
noncomputable def yY (ρ:DS)(j:Nat)(p:List Nat)(row:List D)(d:D):Out:=match ρ[j]? with
 |some (some t)=>if aS row.length=true then .nx (ρ.set j (some (bK p t (.lst (row ++ [d]))))) else .bad
 |_=>.bad
noncomputable def qQ (j n:Nat)(g:DS→Res (List Nat))(f:DS→Res D):DS→Out:=fun ρ=>(g ρ).out fun p=>(f ρ).out fun d=>lH ρ j n p fun row=>yY ρ j p row d
theorem nK {ρ:DS}{n:Nat}{p:List Nat}{f:List D→Out}{B:Hp}(h:OkO E B (lH ρ j n p f)):p.length=n∧∃t row,ρ[j]?=some (some t)∧bV p t=some (.lst row)∧lH ρ j n p f=f row:=by
 unfold lH at h;by_cases hn:p.length=n
 ·rw[if_pos hn]at h;refine⟨hn,?_⟩;cases hr:ρ[j]? with
  |none=>rw[hr]at h;exact h.elim
  |some od=>
  cases od with
  |none=>rw[hr]at h;exact h.elim
  |some t=>
  rw[hr]at h;dsimp only at h;cases hp:bV p t with
  |none=>rw[hp]at h;exact h.elim
  |some c=>
  rw[hp]at h;cases c with
  |lst row=>exact(dR t row rfl hp (by unfold lH;rw[if_pos hn,hr];dsimp only;rw[hp]))
  |_=>exact h.elim
 ·rw[if_neg hn]at h;exact h.elim
theorem wL {o e:Expr}{apos cpos pos:Pos}{g:DS→Res (List Nat)}{f:DS→Res D}{m:Nat}(hm:μ.getD j 0=m+1+n)(hpa:EA X E μ j o g)(h:PZ X E μ m e f)(hex:∀ρ c,f ρ≠ .exc c)
  (hs:starEach [e] X.env=(false,eval e X.env)::starEach [] X.env:=by rfl)
  (hbase:attributeBase o "append" X.env (eval o X.env)=eval o X.env:=by rfl)
  (hfew:((backTo cpos (starEach [e] X.env)).all (fun x=> !x.1)&&(backToKw cpos (keywordEach [] X.env)).all (fun x=>x.1.isSome)&&decide (([e].length+([]:List Keyword).length+if ([]:List Keyword).isEmpty=true then 0 else 1)<30))=true:=by rfl)
  (hline:(apos.endLine==cpos.line)=true:=by rfl)
  (hsw:swapsWith (.Call (.Attribute o "append" apos) [e] [] cpos) none pos.line X.env=pure false:=by rfl) :
  mX X E μ r (.Expr (.Call (.Attribute o "append" apos) [e] [] cpos) pos) (qQ j n g f):=by
 intro pins s σ Ge B G H ρ fp I R ho;have hp:=t9 (apos:=apos) (cpos:=cpos) (r:=eX) PySem.F.plainAttrs_list PySem.F.slot_list_append PySem.F.type_list_append (show DV X "list.append" eX from jU) hpa (dG (ua h) jD hs) hbase hfew hline hs rfl;refine aO (gr hp hsw pins s σ H {nx:=fun σ' H'=>∃W G' V,qQ j n g f ρ= .nx W∧σ'=σ∧Rw X.K μ Ge B G' H' σ W V∧Same G G',bk:=fun _ _=>False,ct:=fun _ _=>False,rt:=fun _ _=>False} I ⟨Ge,B,G,ρ,fp,R,ho.res,fun p ep v0 v G1 H1 hv hval R1 sg sh=>?_⟩) fun fl s1 L=>?_
 ·have k:=ho.res2 ep (Same.refl B);have hfd:∃d,f ρ= .ok d:=by
   cases q:f ρ with
   |ok d=>exact⟨d,rfl⟩
   |exc c=>exact absurd q (hex ρ c)
   |bad=>rw[q]at k;exact k.elim
  obtain⟨d0,i⟩:=hfd;have kk:=k.res2 i (Same.refl B);have e0:qQ j n g f ρ=lH ρ j n p fun row=>yY ρ j p row d0:=by unfold qQ;rw[bM ep,bM i]
  refine m_ (nK kk) fun hn t row hr hg e1=>?_;rw[e1]at kk;subst hn;have e2:yY ρ j p row d0=if aS row.length=true then .nx (ρ.set j (some (bK p t (.lst (row ++ [d0]))))) else .bad:=by unfold yY;rw[hr]
  rw[e2]at kk;by_cases hc:aS row.length=true
  ·have e3:=(e0.trans e1).trans (e2.trans (if_pos hc));refine yN (R1.path hm hr hg) fun v1 b ys U c0 c1 c2 c3 c4 c5 c6 c7 c8 c9=>?_;rw[hv]at c0;cases c0;have:=hval.one c1;subst this;refine⟨.inl ⟨rfl,ys,.inl (.inl c2)⟩,?_⟩;refine⟨Ge,B,G1,ρ,fp,R1,by rw[i];trivial,fun d ed v G2 H2 S R2 sg2 sh2 o w=>?_⟩;rw[i]at ed;cases ed;refine(nC b ys v rfl rfl (sh2 _ _ c2) (by rw[←c3.length];exact jv hc) ?_);refine yN (R2.path hm hr hg) fun v1 b2 ys2 U2 p0 p1 p2 p3 p4 p5 p6 p7 p8 p9=>?_;rw[hv]at p0;cases p0;have:=(c1.mono sh2).one p1;cases this;rw[sh2 _ _ c2]at p2;cases p2;have fr:=R2.freshOf w R1;have neU:∀c,c∈U2→c≠b:=fun c J z=>p5 (z ▸ J);have neS:∀c,c∈S→c≠b:=fun c J z=>(fr c J).2 j (z ▸ p6);obtain⟨V,R3⟩:=p9 (ys ++ [v]) (row ++ [d0]) (U2 ++ S) (.append (p3.mono fun d v A _ hA z=>z.mono (.refl _) fun c J u e=>by rw[ak (neU c (hA c J))];exact e) (.one (o.mono (.refl _) fun c J u e=>by rw[ak (neS c J)];exact e))) (nodup_append.mpr ⟨p4,w.1,fun c J c2 hc2 e=>by subst e;exact(fr c hc2).2 j (p7 c J)⟩) (fun c J=>(mem_append.mp J).imp id (fr c));exact(jb _ _ V e3 rfl R3 (sg.trans sg2))
  ·rw[if_neg hc]at kk;exact kk.elim
 ·cases fl with
  |next=>
   obtain⟨σ',H',I',W,G',V,e1,e2,R',sg⟩:=L;subst e2;exact⟨W,_,G',H',V,e1,I',R',sg⟩
  |brk=>obtain⟨_,_,_,L⟩:=L;exact L.elim
  |cont=>obtain⟨_,_,_,L⟩:=L;exact L.elim
  |ret u=>obtain⟨_,_,_,_,_,L⟩:=L;exact L.elim
end
theorem xN {m:Nat}{p:List Nat}{d c:D}(h:(bG d)[m]?=some c):bV (m::p) d=bV p c:=by
 show (match (bG d)[m]? with|some c=>bV p c|none=>none)=_
 rw[h]
theorem cX {m:Nat}{p:List Nat}{d c e:D}(h:(bG d)[m]?=some c):bK (m::p) d e=eN d ((bG d).set m (bK p c e)):=by
 show (match (bG d)[m]? with|some c=>eN d ((bG d).set m (bK p c e))|none=>d)=_
 rw[h]
theorem ls {m:Nat}{p:List Nat}{d c:D}(h:bV (m::p) d=some c):∃k,(bG d)[m]?=some k∧bV p k=some c:=by
 have h':(match (bG d)[m]? with|some c=>bV p c|none=>none)=some c:=h
 cases q:(bG d)[m]? with
 |none=>rw[q]at h';cases h'
 |some k=>rw[q]at h';exact⟨k,rfl,h'⟩
theorem rL {d:D}{l:List D}{m:Nat}{c:D}(h:(bG d)[m]?=some c):bG (eN d l)=l:=by
 cases d with
 |lst _=>rfl
 |tup _=>rfl
 |dct _ _=>rfl
 |_=>simp[bG]at h
theorem IC {d:D}{l l':List D}:eN (eN d l) l'=eN d l':=by
 cases d <;> rfl
theorem Du {d:D}:eN d (bG d)=d:=by
 cases d <;> rfl
theorem yw:∀{p:List Nat} {d c:D},bV p d=some c→bK p d c=d:=by
 intro l_
 induction l_ with
 |nil=>
  rintro d c h;exact by cases h;rfl
 |cons m p ihh=>
  rintro d c h;obtain⟨k,h1,h2⟩:=ls h;rw[cX h1,ihh h2,pk h1,Du]
theorem xO {e:D}:∀{p:List Nat} {d c:D},bV p d=some c→bV p (bK p d e)=some e:=by
 intro l_
 induction l_ with
 |nil=>
  rintro _ _ _;exact rfl
 |cons m p ihh=>
  rintro d c h;obtain⟨k,h1,h2⟩:=ls h;have hlt:=(cU h1).1;have h3:(bG (eN d ((bG d).set m (bK p k e))))[m]?=some (bK p k e):=by rw[rL h1,getElem?_set_self hlt]
  rw[cX h1,xN h3];exact ihh h2
theorem yx {e e':D}:∀{p:List Nat} {d c:D},bV p d=some c→bK p (bK p d e) e'=bK p d e':=by
 intro l_
 induction l_ with
 |nil=>
  rintro _ _ _;exact rfl
 |cons m p ihh=>
  rintro d c h;obtain⟨k,h1,h2⟩:=ls h;have hlt:=(cU h1).1;have h3:(bG (eN d ((bG d).set m (bK p k e))))[m]?=some (bK p k e):=by rw[rL h1,getElem?_set_self hlt]
  rw[cX h1,cX h3,rL h1,IC,ihh h2,cX h1,set_set]
theorem yy {e:D}{i:Nat}{k:D}:∀{p:List Nat} {d c:D},bV p d=some c→(bG c)[i]?=some k→bK (p ++ [i]) d e=bK p d (eN c ((bG c).set i e)):=by
 intro l_
 induction l_ with
 |nil=>
  rintro d c h h';exact by cases h;exact cX h'
 |cons m p ihh=>
  rintro d c h h';obtain⟨q,h1,h2⟩:=ls h;show bK (m::(p ++ [i])) d e=_;rw[cX h1,cX h1,ihh h2 h']
noncomputable def jn (c:Int):D→D
 |.lst r=>.lst (r ++ [.int c])
 |d=>d
noncomputable def qo:D→Bool
 |.lst r=>aS r.length
 |_=>false
noncomputable def gS (c:Int)(i:Nat)(rows:List D):List D:=(rows.take i).map (jn c) ++ rows.drop i
theorem yH {c:Int}{rows:List D}:gS c 0 rows=rows:=rfl
theorem Bg {c:Int}{rows:List D}:gS c rows.length rows=rows.map (jn c):=by unfold gS;rw[take_length,List.drop_length,append_nil]
theorem DM {c:Int}{rows:List D}{i:Nat}(h:i<rows.length):(gS c i rows)[i]?=rows[i]?:=by
 unfold gS;rw[List.getElem?_append_right (by simp;omega)];simp[Nat.min_eq_left (le_of_lt h)]
theorem yG {c:Int}{rows:List D}{i:Nat}{d:D}(h:rows[i]?=some d):(gS c i rows).set i (jn c d)=gS c (i+1) rows:=by
 have hlt:=(cU h).1;have hd:rows[i]=d:=(cU h).2;unfold gS;have e1:((rows.take i).map (jn c)).length=i:=by simp;omega
 rw[List.set_append_right _ _ (by omega),e1,Nat.sub_self,List.drop_eq_getElem_cons hlt,List.set_cons_zero,List.take_succ_eq_append_getElem hlt,map_append,append_assoc,hd];rfl
theorem Gb {K:W.Frag}{G H:Hp}{c:Int}:∀{n:Nat},Ow K G H n (.int c) (.int c) []
 |0=>⟨rfl,rep_int.mpr rfl⟩
 |_+1=>⟨by unfold L2.flat;rfl,rfl,rep_int.mpr rfl⟩
noncomputable def zr (ρ:DS)(j jr:Nat)(c:Int)(p:List Nat)(rows:List D):Out:=match ρ[j]? with
 |some (some t)=>if rows.all qo=true then .nx ((ρ.set jr none).set j (some (bK p t (.lst (rows.map (jn c)))))) else .bad
 |_=>.bad
noncomputable def jp (j jr n:Nat)(c:Int)(g:DS→Res (List Nat)):DS→Out:=fun ρ=>(g ρ).out fun p=>lH ρ j n p fun rows=>zr ρ j jr c p rows
section
variable{X:Cx}{E:XK}{μ:List Nat}{r n j:Nat}
theorem yo {o:Expr}{x:Str}{jr kk m:Nat}{c:Int}{p1 p2 p3 apos cpos pos' pos:Pos}{g:DS→Res (List Nat)}(hp:PassesOwn (model X.prog X.w) X.A X.env X.xe)(hc:X.calm=true)(hm:μ.getD j 0=m+1+(n+1))(hjr:jr≠j)(hNd:X.N.Nodup)(hN:X.N[jr]?=some x)(hx:Bs X.env.scope x)(hv:yP X.env.scope x)(hpa:EA X E μ j o g)
  (hd:(x==("__debug__" :Str))=false:=by decide) (hcd:(x==("__classdict__" :Str))=false:=by decide)
  (hf:X.fn x=true∨X.env.scope.names.lookup x=some .local:=by first|exact .inl rfl|exact .inr rfl)
  (hs:starEach [.Constant (.int c) kk p3] X.env=(false,eval (.Constant (.int c) kk p3) X.env)::starEach [] X.env:=by rfl)
  (hbase:attributeBase (.Name x p2) "append" X.env (eval (.Name x p2) X.env)=eval (.Name x p2) X.env:=by rfl)
  (hfew:((backTo cpos (starEach [.Constant (.int c) kk p3] X.env)).all (fun x=> !x.1)&&(backToKw cpos (keywordEach [] X.env)).all (fun x=>x.1.isSome)&&decide (([(.Constant (.int c) kk p3:Expr)].length+([]:List Keyword).length+if ([]:List Keyword).isEmpty=true then 0 else 1)<30))=true:=by rfl)
  (hline:(apos.endLine==cpos.line)=true:=by rfl)
  (hsw:swapsWith (.Call (.Attribute (.Name x p2) "append" apos) [.Constant (.int c) kk p3] [] cpos) none pos'.line X.env=pure false:=by rfl)
  (hfi:∀x,foldedSetIterable o X.env x=pure x:=by intro _;rfl) :
  mX X E μ r (.For (.Name x p1) o [.Expr (.Call (.Attribute (.Name x p2) "append" apos) [.Constant (.int c) kk p3] [] cpos) pos'] [] pos) (jp j jr n c g):=by
 intro pins s σ Ge B G H l fp I R ho;have hjσ:jr<σ.length:=by rw[I.len];exact(cU hN).1
 have hb:=t9 (apos:=apos) (cpos:=cpos) (r:=eX) PySem.F.plainAttrs_list PySem.F.slot_list_append PySem.F.type_list_append (show DV X "list.append" eX from jU) (iQ (pos:=p2) hN hv hd hcd) (dG (As (i:=c) (j:=kk) (pos:=p3)) jD hs) hbase hfew hline hs rfl;refine aO (Gw (pos:=pos) hp hc (wJ hpa) (eB (pos:=p1) hNd hN hx hf) (wU (gr (pos:=pos') hb hsw)) hfi pins s σ H {nx:=fun C P=>∃Y G' W,jp j jr n c g l= .nx Y∧Rw X.K μ Ge B G' P C Y W∧Same G G',bk:=fun _ _=>False,ct:=fun _ _=>False,rt:=fun _ _=>False} I ⟨Ge,B,G,l,fp,R,ho.res,fun p ep v0 v G1 H1 hv0 hval R1 sg sh=>?_⟩) fun fl s1 J=>?_
 ·have k:=ho.res2 ep (Same.refl B);have e0:jp j jr n c g l=lH l j n p fun rows=>zr l j jr c p rows:=by unfold jp;rw[bM ep]
  refine m_ (nK k) fun hn t rows hr hg e1=>?_;rw[e1]at k;subst hn;have e2:zr l j jr c p rows=if rows.all qo=true then .nx ((l.set jr none).set j (some (bK p t (.lst (rows.map (jn c)))))) else .bad:=by unfold zr;rw[hr]
  rw[e2]at k;by_cases L:rows.all qo=true
  ·have e3:=(e0.trans e1).trans (e2.trans (if_pos L));refine pH (R1.node (m:=m+2) (by rw[hm];omega) hr hg tH hv0 hval) fun A a xs T f1 f2 f3 f4=>?_;subst f1;have hjl:j<l.length:=(cU hr).1;have hlen:=f4.length;refine(gW a rfl ⟨xs,.inl (.inl f2)⟩ (zt (xs:=xs) (fun i C P=>P a=some (.lst xs)∧C[j]?=some (some v0)∧C.length=σ.length∧valP P p v0 (.ref a)∧∃W,Rw X.K μ Ge B G1 P C ((l.set jr none).set j (some (bK p t (.lst (gS c i rows))))) W) ?_ ?_ ?_ ?_))
   ·refine(HQ f2 hv0 rfl hval (fun i=>if i=jr then [] else fp i) ?_)
    rw[yH,yw hg];have er:(l.set jr none).set j (some t)=l.set jr none:=pk (by rw[getElem?_set_ne hjr];exact hr);rw[er];exact R1.drop
   ·intro i C P _ hZ28;obtain⟨z,_⟩:=hZ28;exact .inl (.inl z)
   ·intro i y C P hy hZ29;refine IQ (hZ29) fun z1 z2 z3 z4 W R2=>?_;have hi:i<rows.length:=by rw[hlen];exact(cU hy).1
    have M:qo rows[i]=true:=all_eq_true.mp L _ (getElem_mem hi);have hrx:∃f,rows[i]= .lst f∧aS f.length=true:=by
     unfold qo at M;split at M
     ·rename_i f q;exact⟨f,q,M⟩
     ·cases M
    obtain⟨f,eri,hlk⟩:=hrx;have hri':rows[i]?=some (.lst f):=by rw[cz hi,eri]
    have hr2:((l.set jr none).set j (some (bK p t (.lst (gS c i rows)))))[j]?=some (some (bK p t (.lst (gS c i rows)))):=getElem?_set_self (by rw[length_set];exact hjl);have hg1:=xO (e:=.lst (gS c i rows)) hg;have hk1:(bG (D.lst (gS c i rows)))[i]?=some (.lst f):=(DM hi).trans hri';have hg2:bV (p ++ [i]) (bK p t (.lst (gS c i rows)))=some (.lst f):=(xP hg1).trans hk1;refine yN (R2.path (n:=m) (p:=p ++ [i]) (by rw[hm];simp) hr2 hg2) fun v1 b ys U c0 c1 c2 c3 c4 c5 c6 c7 c8 c9=>?_;rw[z2]at c0;cases c0;have ey:=(valP.snoc z1 (show (tP (HO.lst xs))[i]?=some y from hy) z4).one c1;subst ey;have hab:=c8 p [i] a rfl (by intro z;cases z) z4;have neU:∀d,d∈U→d≠b:=fun d hd z=>c5 (z ▸ hd);obtain⟨fp3,R3⟩:=c9 (ys ++ [.int c]) (f ++ [.int c]) (U ++ []) (.append (c3.mono fun d v A _ hA z=>z.mono (.refl _) fun e he u eu=>by rw[ak (neU e (hA e he))];exact eu) (.one Gb)) (by rw[append_nil];exact c4) (fun d hd=>.inl (by rw[append_nil]at hd;exact hd));have hv1:valP (bo P b (.lst (ys ++ [.int c]))) p v0 (.ref a):=by
     have go:∀{q:List Nat} {w:V},valP P q w (.ref a)→(∀q1 t1 a1,q=q1 ++ t1→valP P q1 w (.ref a1)→a1≠b)→valP (bo P b (.lst (ys ++ [.int c]))) q w (.ref a):=by
      intro q
      induction q with
      |nil=>intro w h _;exact h
      |cons i0 q ih=>
       intro w h hb';refine ja (h) fun a1 o1 w1 y1 y2 y3 y4=>?_;refine(jb a1 o1 w1 y1 (by rw[ak (hb' [] (i0::q) a1 rfl y1.symm)];exact y2) y3 (ih y4 fun q1 t1 a2 eq h2=>hb' (i0::q1) t1 a2 (by rw[eq];rfl) (jb a1 o1 w1 y1 y2 y3 h2)))
     exact go z4 fun q1 t1 a1 eq h1=>c8 q1 (t1 ++ [i]) a1 (by rw[eq,append_assoc]) (by simp) h1
    refine⟨.ref b,getElem?_set_self (by rw[z3];exact hjσ),.inl ⟨rfl,ys,.inl (.inl c2)⟩,b,ys,.int c,rfl,rfl,c2,by rw[←c3.length];exact jv hlk,?_⟩;refine(HQ (by rw[ak hab];exact z1) (by rw[getElem?_set_ne hjr];exact z2) (by rw[length_set];exact z3) hv1 (fun i=>if i=jr then [] else fp3 i) ?_)
    have R4:=R3.forget (i:=jr) (o:=some (.ref b));have eρ:((((l.set jr none).set j (some (bK p t (.lst (gS c i rows))))).set j (some (bK (p ++ [i]) (bK p t (.lst (gS c i rows))) (.lst (f ++ [.int c]))))).set jr none)=(l.set jr none).set j (some (bK p t (.lst (gS c (i+1) rows)))):=by
     rw[yy hg1 hk1,yx hg,set_set,List.set_comm _ _ (Ne.symm hjr),set_set];have:eN (D.lst (gS c i rows)) ((bG (D.lst (gS c i rows))).set i (.lst (f ++ [.int c])))= .lst (gS c (i+1) rows):=by
      show D.lst ((gS c i rows).set i (.lst (f ++ [.int c])))=_;rw[←yG hri'];rfl
     rw[this]
    rw[eρ]at R4;exact R4
   ·intro C P hZ30;refine IQ (hZ30) fun z1 z2 z3 z4 W R2=>?_;rw[←hlen,Bg]at R2;exact(HG _ G1 W e3 R2 sg)
  ·rw[if_neg L]at k;exact k.elim
 ·cases fl with
  |next=>
   obtain⟨C,P,I',Y,G',W,e1,R',sg⟩:=J;exact⟨Y,_,G',P,W,e1,I',R',sg⟩
  |brk=>obtain⟨_,_,_,J⟩:=J;exact J.elim
  |cont=>obtain⟨_,_,_,J⟩:=J;exact J.elim
  |ret u=>obtain⟨_,_,_,_,_,J⟩:=J;exact J.elim
noncomputable def AN (ρ:DS)(j:Nat)(p:List Nat)(row:List D):Out:=match ρ[j]? with
 |some (some t)=>.nx (ρ.set j (some (bK p t (.lst row.reverse))))
 |_=>.bad
noncomputable def vH (j n:Nat)(g:DS→Res (List Nat)):DS→Out:=fun ρ=>(g ρ).out fun p=>lH ρ j n p fun row=>AN ρ j p row
theorem Di {o:Expr}{apos cpos pos:Pos}{g:DS→Res (List Nat)}(hm:μ.getD j 0=0+1+n)(hpa:EA X E μ j o g)
  (hbase:attributeBase o "reverse" X.env (eval o X.env)=eval o X.env:=by rfl) (hline:(apos.endLine==cpos.line)=true:=by rfl)
  (hsw:swapsWith (.Call (.Attribute o "reverse" apos) [] [] cpos) none pos.line X.env=pure false:=by rfl) :
  mX X E μ r (.Expr (.Call (.Attribute o "reverse" apos) [] [] cpos) pos) (vH j n g):=by
 intro pins s σ Ge B G H ρ fp I R ho;have hp:=Gi (apos:=apos) (cpos:=cpos) (r:=pe) PySem.F.plainAttrs_list PySem.F.slot_list_reverse PySem.F.type_list_reverse (show DV X "list.reverse" pe from vp) hpa hbase hline;refine aO (gr hp hsw pins s σ H {nx:=fun σ' H'=>∃W G' V,vH j n g ρ= .nx W∧σ'=σ∧Rw X.K μ Ge B G' H' σ W V∧Same G G',bk:=fun _ _=>False,ct:=fun _ _=>False,rt:=fun _ _=>False} I ⟨Ge,B,G,ρ,fp,R,ho.res,fun p ep v0 v G1 H1 hv hval R1 sg sh=>?_⟩) fun fl s1 J=>?_
 ·have k:=ho.res2 ep (Same.refl B);have e0:vH j n g ρ=lH ρ j n p fun row=>AN ρ j p row:=by unfold vH;rw[bM ep]
  refine m_ (nK k) fun hn t row hr hg e1=>?_;subst hn;have e2:AN ρ j p row= .nx (ρ.set j (some (bK p t (.lst row.reverse)))):=by unfold AN;rw[hr]
  refine yN (R1.path hm hr hg) fun v1 b ys U c0 c1 c2 c3 c4 c5 c6 c7 c8 c9=>?_;rw[hv]at c0;cases c0;have:=hval.one c1;subst this;obtain⟨eU,rl⟩:=c3.zero;obtain⟨V,R3⟩:=c9 ys.reverse row.reverse [] (.of0 rl.reverse) nodup_nil (fun c h=>by cases h);exact⟨.inl ⟨rfl,ys,.inl (.inl c2)⟩,b,ys,rfl,rfl,c2,_,_,V,(e0.trans e1).trans e2,rfl,R3,sg⟩
 ·cases fl with
  |next=>
   obtain⟨σ',H',I',W,G',V,e1,e2,R',sg⟩:=J;subst e2;exact⟨W,_,G',H',V,e1,I',R',sg⟩
  |brk=>obtain⟨_,_,_,J⟩:=J;exact J.elim
  |cont=>obtain⟨_,_,_,J⟩:=J;exact J.elim
  |ret u=>obtain⟨_,_,_,_,_,J⟩:=J;exact J.elim
noncomputable def xF (ρ:DS)(j:Nat)(p:List Nat)(row:List D)(d:D):Out:=match ρ[j]?,d with
 |some (some t),.lst l=>if aS (row.length+l.length)=true then .nx (ρ.set j (some (bK p t (.lst (row ++ l))))) else .bad
 |_,_=>.bad
noncomputable def rh (j n:Nat)(g:DS→Res (List Nat))(f:DS→Res D):DS→Out:=fun ρ=>(g ρ).out fun p=>(f ρ).out fun d=>lH ρ j n p fun row=>xF ρ j p row d
theorem Dh {o e:Expr}{apos cpos pos:Pos}{g:DS→Res (List Nat)}{f:DS→Res D}(hm:μ.getD j 0=0+1+n)(hpa:EA X E μ j o g)(h:PZ X E μ 0 e f)(hex:∀ρ c,f ρ≠ .exc c)
  (hs:starEach [e] X.env=(false,eval e X.env)::starEach [] X.env:=by rfl)
  (hbase:attributeBase o "extend" X.env (eval o X.env)=eval o X.env:=by rfl)
  (hfew:((backTo cpos (starEach [e] X.env)).all (fun x=> !x.1)&&(backToKw cpos (keywordEach [] X.env)).all (fun x=>x.1.isSome)&&decide (([e].length+([]:List Keyword).length+if ([]:List Keyword).isEmpty=true then 0 else 1)<30))=true:=by rfl)
  (hline:(apos.endLine==cpos.line)=true:=by rfl)
  (hsw:swapsWith (.Call (.Attribute o "extend" apos) [e] [] cpos) none pos.line X.env=pure false:=by rfl) :
  mX X E μ r (.Expr (.Call (.Attribute o "extend" apos) [e] [] cpos) pos) (rh j n g f):=by
 intro pins s σ Ge B G H ρ fp I R ho;have hp:=t9 (apos:=apos) (cpos:=cpos) (r:=r_) PySem.F.plainAttrs_list PySem.F.slot_list_extend PySem.F.type_list_extend (show DV X "list.extend" r_ from yf) hpa (dG (ua h) jD hs) hbase hfew hline hs rfl;refine aO (gr hp hsw pins s σ H {nx:=fun σ' H'=>∃W G' V,rh j n g f ρ= .nx W∧σ'=σ∧Rw X.K μ Ge B G' H' σ W V∧Same G G',bk:=fun _ _=>False,ct:=fun _ _=>False,rt:=fun _ _=>False} I ⟨Ge,B,G,ρ,fp,R,ho.res,fun p ep v0 v G1 H1 hv hval R1 sg sh=>?_⟩) fun fl s1 J=>?_
 ·have k:=ho.res2 ep (Same.refl B);have hfd:∃d,f ρ= .ok d:=by
   cases q:f ρ with
   |ok d=>exact⟨d,rfl⟩
   |exc c=>exact absurd q (hex ρ c)
   |bad=>rw[q]at k;exact k.elim
  obtain⟨d0,i⟩:=hfd;have kk:=k.res2 i (Same.refl B);have e0:rh j n g f ρ=lH ρ j n p fun row=>xF ρ j p row d0:=by unfold rh;rw[bM ep,bM i]
  refine m_ (nK kk) fun hn t row hr hg e1=>?_;rw[e1]at kk;subst hn;unfold xF at kk;rw[hr]at kk;cases d0 with
  |lst l=>
   dsimp only at kk;by_cases hc:aS (row.length+l.length)=true
   ·have e2:xF ρ j p row (.lst l)= .nx (ρ.set j (some (bK p t (.lst (row ++ l))))):=by unfold xF;rw[hr];exact if_pos hc
    refine yN (R1.path hm hr hg) fun v1 b ys U c0 c1 c2 c3 c4 c5 c6 c7 c8 c9=>?_;rw[hv]at c0;cases c0;have:=hval.one c1;subst this;refine⟨.inl ⟨rfl,ys,.inl (.inl c2)⟩,Ge,B,G1,ρ,fp,R1,by rw[i];trivial,fun d ed v G2 H2 S R2 sg2 sh2 o w=>?_⟩;rw[i]at ed;cases ed;refine cps fun PP kP=>?_;obtain⟨_,rp⟩:=o;rw[rep_lst]at rp;refine bA (rp) fun q zs hS152 lz rl=>?_;subst hS152;refine yN (R2.path hm hr hg) fun v1 b2 ys2 U2 p0 p1 p2 p3 p4 p5 p6 p7 p8 p9=>?_;refine kP ?_;clear kP PP;rw[hv]at p0;cases p0;have:=(c1.mono sh2).one p1;cases this;rw[sh2 _ _ c2]at p2;cases p2;obtain⟨eU,rr⟩:=p3.zero;obtain⟨V,R3⟩:=p9 (ys ++ zs) (row ++ l) [] (.of0 (rr.append rl)) nodup_nil (fun c h=>by cases h);exact⟨b,q,ys,zs,rfl,rfl,sh2 _ _ c2,R2.gh _ _ lz.h,by rw[←rr.length,←rl.length];exact bP hc,_,_,V,(e0.trans e1).trans e2,rfl,R3,sg.trans sg2⟩
   ·rw[if_neg hc]at kk;exact kk.elim
  |_=>exact kk.elim
 ·cases fl with
  |next=>
   obtain⟨σ',H',I',W,G',V,e1,e2,R',sg⟩:=J;subst e2;exact⟨W,_,G',H',V,e1,I',R',sg⟩
  |brk=>obtain⟨_,_,_,J⟩:=J;exact J.elim
  |cont=>obtain⟨_,_,_,J⟩:=J;exact J.elim
  |ret u=>obtain⟨_,_,_,_,_,J⟩:=J;exact J.elim
end
noncomputable def cn (ks:List (List bF))(k:List bF):Option Nat:=ks.findIdx? (fun q=>decide (q=k))
theorem kE {q k:List bF}{ks:List (List bF)}:cn (q::ks) k=if q=k then some 0 else (cn ks k).map (· + 1):=by
 unfold cn;rw[List.findIdx?_cons];by_cases e:q=k
 ·rw[decide_eq_true e,if_pos e];rfl
 ·rw[decide_eq_false e,if_neg e];rfl
theorem ma {k:List bF}:∀{kvs:List (List bF×V)} {m:Nat},cn (kvs.map (·.1)) k=some m→i9 kvs k=(kvs.map (·.2))[m]?
 | [],m,h=>by cases h
 |(q,v)::r,m,h=>by
  rw[map_cons,kE]at h;by_cases e:q=k
  ·rw[if_pos e]at h;cases h;exact lP e
  ·rw[if_neg e]at h;cases z:cn (r.map (·.1)) k with
   |none=>rw[z]at h;cases h
   |some m'=>
    rw[z]at h;cases h;rw[jK e,ma z];rfl
theorem oG {k:List bF}{ks:List (List bF)}{m:Nat}(h:cn ks k=some m):m<ks.length:=by
 unfold cn at h;exact(List.findIdx?_eq_some_iff_getElem.mp h).1
theorem vd {k:List bF}{kvs:List (List bF×V)}(h:cn (kvs.map (·.1)) k=none):i9 kvs k=none:=by
 induction kvs with
 |nil=>rfl
 |cons p r ih=>
  rw[map_cons,kE]at h;by_cases e:p.1=k
  ·rw[if_pos e]at h;cases h
  ·rw[if_neg e]at h;rw[jK e];apply ih;cases z:cn (r.map (·.1)) k with
   |none=>rfl
   |some m'=>rw[z]at h;cases h
theorem yd {k:List bF}{v:V}:∀{kvs:List (List bF×V)},¬k∈kvs.map (·.1)→(kvs.map fun kv=>if kv.1=k then (kv.1,v) else kv)=kvs:=by
 intro l_
 induction l_ with
 |nil=>
  rintro _;exact rfl
 |cons p r ihh=>
  rintro h;have h1:¬p.1=k:=fun e=>h (by rw[map_cons,e];exact mem_cons_self ..);rw[map_cons,if_neg h1,ihh fun z=>h (cR z)]
theorem Dr {k:List bF}{v:V}:∀{kvs:List (List bF×V)} {m:Nat},(kvs.map (·.1)).Nodup→cn (kvs.map (·.1)) k=some m→(kvs.map fun kv=>if kv.1=k then (kv.1,v) else kv).map (·.1)=kvs.map (·.1)∧(kvs.map fun kv=>if kv.1=k then (kv.1,v) else kv).map (·.2)=(kvs.map (·.2)).set m v:=by
 intro l_
 induction l_ with
 |nil=>
  rintro m _ h;exact by cases h
 |cons p r ihh=>
  rintro m nd h;rw[map_cons,kE]at h;rw[map_cons]at nd;obtain⟨n1,n2⟩:=nodup_cons.mp nd;by_cases e:p.1=k
  ·rw[if_pos e]at h;cases h;rw[map_cons,if_pos e,yd (by rw[←e];exact n1)];exact⟨rfl,rfl⟩
  ·rw[if_neg e]at h;cases z:cn (r.map (·.1)) k with
   |none=>rw[z]at h;cases h
   |some m'=>
    rw[z]at h;cases h;obtain⟨a,b⟩:=ihh n2 z;rw[map_cons,if_neg e];exact⟨by rw[map_cons,map_cons,a],by rw[map_cons,map_cons,b];rfl⟩
theorem AH {k:List bF}{v:V}{kvs:List (List bF×V)}{m:Nat}(nd:(kvs.map (·.1)).Nodup)(h:cn (kvs.map (·.1)) k=some m):(fV kvs k v).map (·.1)=kvs.map (·.1)∧(fV kvs k v).map (·.2)=(kvs.map (·.2)).set m v:=by
 have e:fV kvs k v=kvs.map fun kv=>if kv.1=k then (kv.1,v) else kv:=by
  unfold fV;rw[if_pos (by rw[lO,ma h,cz (by rw[length_map];have:=oG h;rwa[length_map]at this)];rfl)]
 rw[e];exact Dr nd h
noncomputable def m8 (ks:List (List bF))(l:List D)(k:List bF)(d:D):D:=match cn ks k with
 |some m=>.dct ks (l.set m d)
 |none=>.dct (ks ++ [k]) (l ++ [d])
noncomputable def qU (j:Nat)(ks:List (List bF))(l:List D)(ρ:DS)(d i:D):Out:=match i with
 |.tup kd=>(match g0 kd with|some k=>if aS ks.length=true then .nx (ρ.set j (some (m8 ks l k d))) else .bad|none=>.bad)
 |_=>.bad
noncomputable def lb (j:Nat)(fi f:DS→Res D):DS→Out:=fun ρ=>match ρ[j]? with
 |some (some (.dct ks l))=>(f ρ).out fun d=>(fi ρ).out fun i=>qU j ks l ρ d i
 |_=>.bad
noncomputable def Hl (ρ:DS)(j:Nat)(p:List Nat)(i:D):Res (List Nat):=match ρ[j]? with
 |some (some d)=>(match bV p d with
  |some (.dct ks l)=>(match i with|.tup kd=>(match g0 kd with|some k=>(match cn ks k with|some m=>.ok (p ++ [m])|none=>.bad)|none=>.bad)|_=>.bad)
  |_=>.bad)
 |_=>.bad
noncomputable def BB (j n:Nat)(g:DS→Res (List Nat))(fi:DS→Res D):DS→Res (List Nat):=fun ρ=>(g ρ).bind fun p=>(fi ρ).bind fun i=>if p.length=n then Hl ρ j p i else .bad
theorem mI {H:Hp}:∀{kvs:List (List bF×V)} {xs:List (List bF×Addr×Value)},Paired (fun (p:List bF×V) (q:List bF×Addr×Value)=>p.1=q.1∧H q.2.1=some (.tup (p.1.map kV))∧RelV p.2 q.2.2) kvs xs→kvs.map (·.1)=xs.map (·.1)
 |_,_,.nil=>rfl
 |_,_,.cons q t=>by rw[map_cons,map_cons,q.1,mI t]
theorem Inv.dnd {X:Cx}{pins:List (Addr×Obj)}{σ:St}{H:Hp}{s:Shared}{a:Addr}{kvs:List (List bF×V)}(I:Inv X pins σ H s)(h:H a=some (.dT kvs)):(kvs.map (·.1)).Nodup:=by
 refine GS (I.hok a _ h) fun _ _ xs pr _ _ _ _ _ _ _ nd=>?_;rw[mI pr];exact nd
section
variable{X:Cx}{E:XK}{μ:List Nat}{r n j:Nat}
theorem wR {pos:Pos}:PN X E (n+1) (.Dict [] [] pos) (fun _=>.ok (.dct [] [])):=by
 intro pins s σ G H ρ I hs hr ho;refine aO (Ar pins s σ H (fun v H'=>∃p,v= .ref p∧H p=none∧H'=bo H p (.dT [])) I fun p hp=>(gW p rfl hp rfl)) fun u s' hZ175=>?_;obtain⟨v,H',I',rv,p,e1,hp,e2⟩:=hZ175;subst e1 e2;refine⟨.dct [] [],rfl,.ref p,G,_,[p],I',rv,(Ext.refl hs).hnew hp _,(HH p ([]) ([]) rfl au rfl rfl rfl rfl),by simp,fun a ha=>?_⟩;have e:a=p:=by simpa using ha
 subst e;refine⟨hp,?_⟩;cases q:G a with
 |none=>rfl
 |some o=>have:=hs a o q;rw[hp]at this;cases this
theorem DW {o i:Expr}{pos:Pos}{g:DS→Res (List Nat)}{fi:DS→Res D}{m:Nat}(hu:X.A.units+64<cLine)(hm:μ.getD j 0=m+1+n)(ho:EA X E μ j o g)(hi:PD X E i fi)(hpi:Bt i:=by intro _ _;rfl):EA X E μ j (.Subscript o i pos) (BB j n g fi):=by
 intro pins s σ H Q I hZ31;obtain⟨Ge,B,G,ρ,fp,R,hok,k⟩:=hZ31;refine wI (pos:=pos) (by omega) ho (fS hi) hpi pins s σ H Q I ?_;refine⟨Ge,B,G,ρ,fp,R,hok.fst,fun p ep v0 v G1 H1 hv hval R1 sg sh=>⟨pX fp G1 H1,ρ,R1.vh,R1.ro,(hok.snd ep (Same.refl B)).fst.le R1.bh,fun di ei vi G3 H3 x3 ri=>?_⟩⟩;have K:=(hok.snd ep (Same.refl B)).snd ei (Same.refl B);by_cases hn:p.length=n
 ·subst hn;rw[if_pos rfl]at K;have e0:BB j p.length g fi ρ=Hl ρ j p di:=by unfold BB;rw[ep,aD,ei,aD,if_pos rfl]
  unfold Hl at K;cases hr:ρ[j]? with
  |none=>rw[hr]at K;exact K.elim
  |some od=>
  cases od with
  |none=>rw[hr]at K;exact K.elim
  |some d=>
  rw[hr]at K;dsimp only at K;cases hp:bV p d with
  |none=>rw[hp]at K;exact K.elim
  |some c=>
  rw[hp]at K;cases c with
  |dct ks l=>
   dsimp only at K;cases di with
   |tup kd=>
    dsimp only at K;cases q1:g0 kd with
    |none=>rw[q1]at K;exact K.elim
    |some kq=>
    rw[q1]at K;dsimp only at K;cases q2:cn ks kq with
    |none=>rw[q2]at K;exact K.elim
    |some m'=>
    refine DO (R1.node (m:=m+1) hm hr hp zp hv hval) fun A a S T e1 e2 e4 e3 h1=>?_;subst e1 e4;rw[rep_tup]at ri;refine bA (ri) fun b xs hS153 tb rk=>?_;subst hS153;have hx:=me rk q1;subst hx;have hlt:m'<(S.map (·.2)).length:=by have:=oG q2;rwa[length_map]at this ⊢
    have hw:(S.map (·.2))[m']?=some ((S.map (·.2))[m']):=cz hlt;refine(dR a ((S.map (·.2))[m']) rfl (.inr (jb S kq b (.inl (x3.hh _ _ e2)) rfl (x3.gh _ _ tb.h) (by rw[ma q2];exact hw.symm))) ?_);refine k (p ++ [m']) (e0.trans ?_) v0 _ (ql (rB fp) G3) H3 hv ((hval.mono x3.hh).snoc (x3.hh _ _ e2) hw) (R1.grow x3) (sg.trans (R1.gg x3)) (sh.trans x3.hh);unfold Hl;rw[hr];dsimp only;rw[hp];dsimp only;rw[q1];dsimp only;rw[q2]
   |_=>exact K.elim
  |_=>exact K.elim
 ·rw[if_neg hn]at K;exact K.elim
theorem wM {x:Str}{i e:Expr}{px tpos pos:Pos}{fi f:DS→Res D}(hu:X.A.units+64<cLine)(hm:μ.getD j 0=n+1)(hN:X.N[j]?=some x)(hv:yP X.env.scope x)(hi:PD X E i fi)(h:PZ X E μ n e f)
  (hd:(x==("__debug__" :Str))=false:=by decide) (hcd:(x==("__classdict__" :Str))=false:=by decide)
  (hs:swapsWith e (some (.Subscript (.Name x px) i tpos)) pos.line X.env=pure false:=by rfl) :
  mX X E μ r (.Assign [.Subscript (.Name x px) i tpos] e pos) (lb j fi f):=by
 intro pins s σ Ge B G H p P I R ho;have hslot:∃g l,p[j]?=some (some (.dct g l)):=by
  unfold lb at ho;split at ho
  ·rename_i g l q;exact⟨g,l,q⟩
  ·exact ho.elim
 obtain⟨g,l,hr⟩:=hslot;have eo:lb j fi f p=(f p).out fun d=>(fi p).out fun i=>qU j g l p d i:=by
  unfold lb;rw[hr]
 rw[eo]at ho ⊢;have top:∀{G H:Hp},Rw X.K μ Ge B G H σ p P→∃a U T,σ[j]?=some (some (.ref a))∧H a=some (.dT U)∧U.map (·.1)=g∧P j=a::T∧AllW (Ow X.K G H n) l (U.map (·.2)) T:=fun {G H} R=>by
  obtain⟨v,hv,o⟩:=R.sl j _ hr;rw[hm]at o;refine ie (o) fun a U T e1 e2 e4 e3 h1=>?_;subst e1;exact(nC a U T hv e2 e4 e3 h1)
 refine ie (top R) fun a U T0 h1 h2 h4 h3 h5=>?_;have nd:=I.dnd h2;have hp:=Dq (pos:=pos) (pos':=tpos) (by omega) (iQ (pos:=px) hN hv hd hcd) (fS hi) (ua h) hs;refine aO (hp pins s σ H {nx:=fun σ' H'=>∃Z G' V,((f p).out fun d=>(fi p).out fun i=>qU j g l p d i)= .nx Z∧σ'=σ∧Rw X.K μ Ge B G' H' σ Z V∧Same G G',bk:=fun _ _=>False,ct:=fun _ _=>False,rt:=fun _ _=>False} I ⟨Ge,B,G,p,P,R,ho.res,fun d ed v G1 H1 S R1 sg sh o w=>?_⟩) fun fl s1 Y=>?_
 ·have k:=ho.res2 ed (Same.refl B);refine⟨_,h1,pX P G1 H1,p,R1.vh,R1.ro,k.res.le R1.bh,fun di ei vi G3 H3 x3 ri=>?_⟩;have kk:=k.res2 ei (Same.refl B);have e0:((f p).out fun d=>(fi p).out fun i=>qU j g l p d i)=qU j g l p d di:=by rw[bM ed,bM ei]
  unfold qU at kk;cases di with
  |tup kd=>
   dsimp only at kk;cases q1:g0 kd with
   |none=>rw[q1]at kk;exact kk.elim
   |some J=>
   rw[q1]at kk;dsimp only at kk;by_cases t:aS g.length=true
   ·have e0:=e0.trans (show qU j g l p d (.tup kd)= .nx (p.set j (some (m8 g l J d))) by unfold qU;dsimp only;rw[q1];exact if_pos t);rw[rep_tup]at ri;refine cps fun PP kP=>?_;refine bA (ri) fun b xs hS154 tb rk=>?_;subst hS154;have hx:=me rk q1;subst hx;have W:=R1.grow x3;refine ie (top W) fun a2 kvs2 T g1 g2 g4 g3 g5=>?_;refine kP ?_;clear kP PP;rw[h1]at g1;cases g1;rw[x3.hh _ _ (sh _ _ h2)]at g2;cases g2;have hcS:∀b∈S,∃u,H1 b=some u∧¬oH u:=fun b F=>let ⟨u,e,c⟩:=o.cell b F;⟨u,e,c.nokey⟩
    have w3:=w.keep hcS (fun i b F=>R.apart w i b F) x3;have fr:=W.freshOf w3 R;have o3:=o.mono (R1.gg x3) fun b _ u e=>x3.hh b u e;have hnd:=W.nd j;rw[g3]at hnd;obtain⟨haT,hTn⟩:=nodup_cons.mp hnd;have O:a∈P j:=by rw[g3];exact mem_cons_self ..
    have inT:∀b∈T,b∈P j:=fun b F=>by rw[g3];exact cR F
    have neT:∀b,b∈T→b≠a:=fun b F z=>haT (z ▸ F);have neS:∀b,b∈S→b≠a:=fun b F z=>(fr b F).2 j (z ▸ O);have fin:∀(T':List Addr) (d':D),Ow X.K (ql (rB P) G3) (bo H3 a (.dT (fV U J v))) (n+1) d' (.ref a) (a::T')→T'.Nodup→(∀c∈T',c∈T∨c∈S)→m8 g l J d=d'→∃V,Rw X.K μ Ge B (ql (rB P) G3) (bo H3 a (.dT (fV U J v))) σ (p.set j (some d')) V:=fun T' d' ow ndT hT' _=>by
     refine⟨_,W.write O h1 (by rw[hm];exact ow) (nodup_cons.mpr ⟨fun z=>?_,ndT⟩) (fun c t=>?_) fun i hi c t hci=>?_⟩
     ·rcases hT' a z with y|y
      ·exact haT y
      ·exact neS a y rfl
     ·rcases mem_cons.mp t with z|z
      ·subst z;exact⟨W.gf j _ O,W.ob j _ O⟩
      ·rcases hT' c z with y|y
       ·exact⟨W.gf j _ (inT c y),W.ob j _ (inT c y)⟩
       ·exact(fr c y).1
     ·rcases mem_cons.mp t with z|z
      ·subst z;exact hi (W.dj i j _ hci O)
      ·rcases hT' c z with y|y
       ·exact hi (W.dj i j _ hci (inT c y))
       ·exact(fr c y).2 i hci
    have key:∃V,Rw X.K μ Ge B (ql (rB P) G3) (bo H3 a (.dT (fV U J v))) σ (p.set j (some (m8 g l J d))) V:=by
     cases q2:cn g J with
     |some m=>
      rw[←h4]at q2;obtain⟨y1,y2⟩:=AH (v:=v) nd q2;have hml:m<l.length:=by rw[g5.length,length_map];have:=oG q2;rwa[length_map]at this
      refine pH (g5.at (cz hml)) fun w0 A L Q f1 f2 f3 f4=>?_;have hT:=hTn;rw[f2]at hT;have M:∀c,c∈L∨c∈Q→c∈T:=fun c t=>by rw[f2];rcases t with z|z;exact mem_append_left _ (mem_append_left _ z);exact mem_append_right _ z
      have big:=f4 (Ow X.K (ql (rB P) G3) (bo H3 a (.dT (fV U J v))) n) (fun d v C hC z=>z.mono (.refl _) fun b F u e=>by rw[ak (neT b (M b (hC b F)))];exact e) d v S (o3.mono (.refl _) fun b F u e=>by rw[ak (neS b F)];exact e);have ed':m8 g l J d= .dct g (l.set m d):=by unfold m8;rw[←h4,q2]
      rw[ed'];refine fin (L ++ S ++ Q) _ (nC a (fV U J v) (L ++ S ++ Q) rfl au (by rw[y1,h4]) rfl (by rw[y2];exact big)) (jV hT w.1 fun c t=>.inr ⟨fun z=>(fr c t).2 j (inT c (M c (.inl z))),fun z=>(fr c t).2 j (inT c (M c (.inr z)))⟩) (fun c t=>?_) ed'
      rcases mem_append.mp t with z|z
      ·rcases mem_append.mp z with y|y
       ·exact .inl (M c (.inl y))
       ·exact .inr y
      ·exact .inl (M c (.inr z))
     |none=>
      have q3:=q2;rw[←h4]at q3;have ek:fV U J v=U ++ [(J,v)]:=AG v (vd q3);have ed':m8 g l J d= .dct (g ++ [J]) (l ++ [d]):=by unfold m8;rw[q2]
      rw[ed'];refine fin (T ++ S) _ (nC a (fV U J v) (T ++ S) rfl au (by rw[ek,map_append,h4];rfl) rfl ?_) (nodup_append.mpr ⟨hTn,w.1,fun b F c t e=>by subst e;exact(fr b t).2 j (inT b F)⟩) (fun c t=>mem_append.mp t) ed';rw[ek,map_append];refine AllW.append (g5.mono fun d v A _ hA z=>z.mono (.refl _) fun b F u e=>by rw[ak (neT b (hA b F))];exact e) (.one (o3.mono (.refl _) fun b F u e=>by rw[ak (neS b F)];exact e))
    obtain⟨V,R4⟩:=key;have h9:U.length<sizeLine:=by
     have e9:U.length=g.length:=by rw[←h4,length_map]
     rw[e9];exact jv t
    exact⟨a,_,rfl,.inr (nC U J b (x3.hh _ _ (sh _ _ h2)) rfl (x3.gh _ _ tb.h) h9 rfl),_,_,V,e0,rfl,R4,sg.trans (R1.gg x3)⟩
   ·rw[if_neg t]at kk;exact kk.elim
  |_=>exact kk.elim
 ·cases fl with
  |next=>
   obtain⟨σ',H',I',Z,G',V,e1,e2,R',sg⟩:=Y;subst e2;exact⟨Z,_,G',H',V,e1,I',R',sg⟩
  |brk=>obtain⟨_,_,_,Y⟩:=Y;exact Y.elim
  |cont=>obtain⟨_,_,_,Y⟩:=Y;exact Y.elim
  |ret u=>obtain⟨_,_,_,_,_,Y⟩:=Y;exact Y.elim
end
theorem Ow.noCells {K:W.Frag}{G H:Hp}{n:Nat}{d:D}{v:V}(h:Ow K G H (n+1) d v []):L2.flat d=true∧Rep K G d v:=by
 cases d with
 |lst l=>refine ja (h) fun a xs T _ _ e _=>?_;cases e
 |dct ks l=>refine ie (h) fun a xs T _ _ _ e _=>?_;cases e
 |tup l=>
  rcases h with h|⟨a,xs,T,_,_,e,_⟩
  ·exact⟨h.1,h.2.2⟩
  ·cases e
 |_=>exact⟨h.1,h.2.2⟩
theorem AllW.noCells {K:W.Frag}{G H:Hp}{n:Nat}:∀{ds:List D} {vs:List V},AllW (Ow K G H (n+1)) ds vs []→flats ds=true∧RepL K G ds vs:=by
 intro l_
 induction l_ with
 |nil=>
  rintro _ h;exact by rw[h.1];exact⟨by unfold flats;rfl,.nil⟩
 |cons d ds ihh=>
  rintro _ h;refine cps fun PP kP=>?_;refine pH (h) fun v r A B e1 e2 h1 h2=>?_;obtain⟨rfl,rfl⟩:=List.append_eq_nil_iff.mp e2.symm;subst e1;obtain⟨f1,r1⟩:=h1.noCells;obtain⟨f2,r2⟩:=ihh h2;refine kP ?_;clear kP PP;exact⟨by unfold flats;rw[f1,f2];rfl,.cons r1 r2⟩
section
variable{X:Cx}{E:XK}{μ:List Nat}{r n:Nat}
theorem Dl {es:List Expr}{x1:Nat}{pos:Pos}{f:DS→Res (List D)}(h:IT X E (n+1) es f):PN X E (n+2) (.Tuple es x1 pos) (f7 f):=by
 refine .tn (Ax h) fun σ G H ρ Q hs hro ho k=>⟨G,ρ,hs,hro,ho.fst,fun ds e vs G1 H1 S x1 os w=>?_⟩;have kk:=ho.snd e x1.hh;by_cases hl:aS ds.length=true
 ·refine⟨by rw[←os.length];exact bP hl,fun p hp=>?_⟩;by_cases hS:S=[]
  ·subst hS;obtain⟨fl,rl⟩:=os.noCells;exact k (.tup ds) (al e (if_pos hl)) (.ref p) (bo G1 p (.tup vs)) _ [] (x1.trans (.new x1.gh hp _)) (.inl ⟨by unfold L2.flat;exact fl,rfl,rep_tup.mpr (dR p vs rfl (.of au) (rl.mono (Ext.new x1.gh hp _).gg))⟩) .nil
  ·have hpS:p∉S:=fun z=>by obtain⟨u,hu,_⟩:=os.has p z;rw[hp]at hu;cases hu
   have gp:G1 p=none:=by
    cases q:G1 p with
    |none=>rfl
    |some u=>rw[x1.gh p u q]at hp;cases hp
   have o1:AllW (Ow X.K G1 (bo H1 p (.tup vs)) (n+1)) ds vs S:=os.mono fun d v A _ hA z=>z.mono (.refl _) fun b hb u e=>by
    have hne:b≠p:=fun zz=>hpS (zz ▸ hA b hb);rw[ak hne];exact e
   have w1:New H G1 (p::S):=⟨nodup_cons.mpr ⟨hpS,w.1⟩,fun a ha=>by
    rcases mem_cons.mp ha with z|z
    ·subst z;exact⟨x1.hh.free hp,gp⟩
    ·exact w.2 a z⟩
   exact k (.tup ds) (al e (if_pos hl)) (.ref p) G1 _ (p::S) (x1.hnew hp _) (.inr (nC p vs S rfl au rfl hS o1)) w1
 ·rw[if_neg hl]at kk;exact kk.elim
end
section
variable{X:Cx}{E:XK}{μ:List Nat}{r n:Nat}
end
theorem wz:∀(ρ:DS) (c:Addr),pN ρ≠ .exc c:=fun ρ c h=>by cases h
theorem mO {f:DS→Res D}{g:DS→Res (List D)}(hf:∀ρ c,f ρ≠ .exc c)(hg:∀ρ c,g ρ≠ .exc c):∀ρ c,pC f g ρ≠ .exc c:=fun ρ c h=>by
 unfold pC at h;cases q:f ρ with
 |ok d=>
  rw[q]at h;cases q2:g ρ with
  |ok d=>rw[q2]at h;cases h
  |exc e=>exact hg ρ e q2
  |bad=>rw[q2]at h;cases h
 |exc e=>exact hf ρ e q
 |bad=>rw[q]at h;cases h
theorem Ac {μ:List Nat}{f:DS→Res D}(hf:∀ρ c,f ρ≠ .exc c):∀ρ c,dQ μ f ρ≠ .exc c:=fun ρ c h=>hf _ c h
theorem rQ {f:DS→Res (List D)}(hf:∀ρ c,f ρ≠ .exc c):∀ρ c,f7 f ρ≠ .exc c:=fun ρ c h=>by
 unfold f7 at h;cases q:f ρ with
 |ok d=>rw[q,aD]at h;split at h <;> cases h
 |exc e=>exact hf ρ e q
 |bad=>rw[q]at h;cases h
section
variable{j jr n m:Nat}{g:DS→Res (List Nat)}{fi f:DS→Res D}{ρ:DS}{p:List Nat}{t d:D}{l rows:List D}{c:Int}
theorem q0 (h:ρ[j]?=some (some d)):sF j ρ= .ok []:=by unfold sF;rw[h]
theorem ny {F:List D→Out}(hn:p.length=n)(ht:ρ[j]?=some (some t))(hp:bV p t=some (.lst rows)):lH ρ j n p F=F rows:=by
 unfold lH;rw[if_pos hn,ht];dsimp only;rw[hp]
theorem xB (hg:g ρ= .ok p)(hn:p.length=n)(ht:ρ[j]?=some (some t))(hp:bV p t=some (.lst rows))(hr:rows.all qo=true):jp j jr n c g ρ= .nx ((ρ.set jr none).set j (some (bK p t (.lst (rows.map (jn c)))))):=by
 unfold jp;rw[hg,bj,ny hn ht hp];unfold zr;rw[ht];exact if_pos hr
theorem BQ (hg:g ρ= .ok p)(hf:f ρ= .ok d)(hn:p.length=n)(ht:ρ[j]?=some (some t))(hp:bV p t=some (.lst rows))(hr:rows.length≤100000):qQ j n g f ρ= .nx (ρ.set j (some (bK p t (.lst (rows ++ [d]))))):=by
 unfold qQ;rw[hg,bj,hf,bj,ny hn ht hp];unfold yY;rw[ht];exact if_pos (decide_eq_true hr)
theorem Cd (hg:g ρ= .ok p)(hn:p.length=n)(ht:ρ[j]?=some (some t))(hp:bV p t=some (.lst rows)):vH j n g ρ= .nx (ρ.set j (some (bK p t (.lst rows.reverse)))):=by
 unfold vH;rw[hg,bj,ny hn ht hp];unfold AN;rw[ht]
theorem BS (hg:g ρ= .ok p)(hf:f ρ= .ok (.lst l))(hn:p.length=n)(ht:ρ[j]?=some (some t))(hp:bV p t=some (.lst rows))(hr:rows.length+l.length≤100000):rh j n g f ρ= .nx (ρ.set j (some (bK p t (.lst (rows ++ l))))):=by
 unfold rh;rw[hg,bj,hf,bj,ny hn ht hp];unfold xF;rw[ht];exact if_pos (decide_eq_true hr)
theorem wk {ks:List (List bF)}{k:List bF}{kd:List D}(ht:ρ[j]?=some (some (.dct ks l)))(hf:f ρ= .ok d)(hi:fi ρ= .ok (.tup kd))(hk:g0 kd=some k)(hl:ks.length≤100000):lb j fi f ρ= .nx (ρ.set j (some (m8 ks l k d))):=by
 unfold lb;rw[ht];dsimp only;rw[hf,bj,hi,bj];unfold qU;dsimp only;rw[hk];exact if_pos (decide_eq_true hl)
theorem ES {ks:List (List bF)}{k:List bF}{kd:List D}(hg:g ρ= .ok p)(hn:p.length=n)(hi:fi ρ= .ok (.tup kd))(hk:g0 kd=some k)(ht:ρ[j]?=some (some t))(hp:bV p t=some (.dct ks l))(hm:cn ks k=some m):BB j n g fi ρ= .ok (p ++ [m]):=by
 unfold BB;rw[hg,aD,hi,aD,if_pos hn];unfold Hl;rw[ht];dsimp only;rw[hp];dsimp only;rw[hk];dsimp only;rw[hm]
end
theorem zU {α:Type}{P:List α→Prop}(h:∀a,P [a]):∀us:List α,us.length=1→P us
 | [a],_=>h a
theorem oO {α:Type}{P:List α→Prop}(h:∀a b,P [a,b]):∀us:List α,us.length=2→P us
 | [a,b],_=>h a b
theorem kG {α:Type}{P:List α→Prop}(h:∀a b c,P [a,b,c]):∀us:List α,us.length=3→P us
 | [a,b,c],_=>h a b c
theorem FN {α:Type}{P:List α→Prop}(h:∀a b c d,P [a,b,c,d]):∀us:List α,us.length=4→P us
 | [a,b,c,d],_=>h a b c d
theorem Ie {α:Type}{P:List α→Prop}(h:∀a b c d e,P [a,b,c,d,e]):∀us:List α,us.length=5→P us
 | [a,b,c,d,e],_=>h a b c d e
section
variable{K:W.Frag}{f:Addr}{x y:Str}{s:Stmt}{m:Str}{t c:Nat}
noncomputable def kf (x y:Str)(s:Stmt)(m:Str)(t c:Nat):Obj:=⟨.type "function",none,.func (W.fnOf x y (iJ s) (cL s) (ag s) .none .none .none (.str m t) none (.ref c) .none),#[]⟩
inductive FK (K:W.Frag)(f:Addr)(x y:Str)(s:Stmt):Prop
 |mk (m:Str) (t c:Nat) (l:K.lookup f=some (kf x y s m t c)) (d:W.codeIn K (.ref c) y=true)
inductive FT (K:W.Frag)(x:Str)(s:Stmt):Prop
 |mk (f:Addr) (a:W.nsIn K mainGlobals x=some (some (.ref f))) (g:FK K f x x s)
inductive FM (K:W.Frag)(C:Addr)(x y:Str)(s:Stmt):Prop
 |mk (f:Addr) (a:W.findIn K (.ref C) x=some (some (.ref f))) (g:FK K f x y s)
theorem rK (l:K.lookup f=some (kf x y s m t c)):W.keepIn K (.ref f)=true:=by
 unfold W.keepIn;dsimp only;rw[l];rfl
theorem FK.kp:FK K f x y s→W.keepIn K (.ref f)=true
 |⟨_,_,_,l,_⟩=>rK l
theorem FK.fn:FK K f x y s→W.isFn K (.ref f)=true
 |⟨_,_,_,l,_⟩=>by
  unfold W.isFn W.typeIn;dsimp only;rw[l];rfl
theorem FK.mk1:FK K f x y s→∃fd,Fun K x y s f fd
 |⟨_,_,_,l,d⟩=>⟨_,zx l d (rK l)⟩
theorem j3 {h:Heap}{mg:Str→Option Value}{ps:List Str}(X:K.In h)(G:h.Ns mainGlobals mg)(g:FT K x s)
  (b:∀(kV doc pm:Value) (an:Option Addr) (cdv ct:Value) (us:List Value),us.length=ps.length→bindArgs (W.fnOf x x (iJ s) (cL s) (ag s) .none kV doc pm an cdv ct) ⟨us,[]⟩=pure (ps.zip us)):Sta K mg x s ps:=by
 obtain⟨f,a,g⟩:=g;obtain⟨fd,F⟩:=g.mk1;exact⟨f,fd,F,F.binds b,W.mg_of X G a,g.kp⟩
end
end L2
namespace L2
open PySem
noncomputable def RawD (h:Heap)(d:Addr)(es:Array DictEntry)(ep:Nat):Prop:=∃o,h.get? d=some o∧o.ExactDict∧o.data= .dict es ep
theorem RawD.ty {s:Shared}{d:Addr}{es:Array DictEntry}{ep:Nat}(r:RawD s.heap d es ep):s.TypeIs (.ref d) "dict" :=let ⟨o,e,x,_⟩:=r;⟨o,e,x.1⟩
section
variable{P:Program}{w:World}{A:Around}{E:Value→Shared→Prop}{s:Shared}{d it:Addr}{es:Array DictEntry}{ep i:Nat}
theorem AI {Q:Value→Shared→Prop}(hd:(d==sysModules)=false)(r:RawD s.heap d es ep)
  (q:Q (.ref s.heap.objs.size) {s with heap:=s.heap.push ⟨.type "dict_keyiterator",none,.fields #[.ref d,.int 0 0,.int es.size 0,.int ep 0],#[]⟩}):wpAny (model P w) A (pyIter (.ref d)) Q E s:=by
 have ty:=r.ty;refine cj (r) fun o e x dt=>?_;refine wpAny_pyIter_slot ty PySem.F.slot_dict_iter (wpAny_call_entry PySem.F.slot_dict_iter ty PySem.F.entry_dict_iter ?_ (PySem.F.args_dict_iter_1 _));unfold Builtin.«dict.__iter__» Builtin.Dict.dictSlotNone;refine wpAny_bind (wpAny_bind (wpAny_notOrdered_dict ty (by show wpAny _ _ (pure (Value.ref d)) _ _ s;refine wpAny_pure ?_;show wpAny _ _ (Builtin.Dict.showsAll d >>= _) _ _ s;unfold Builtin.Dict.showsAll;rw[if_neg (by rw[hd];exact Bool.false_ne_true)];refine wpAny_bind (wpAny_pure ?_);refine wpAny_bind (wpAny_dictEntries e dt ?_);refine wpAny_bind (wpAny_dictEpoch e dt ?_);refine wpAny_bind (wpAny_newObj_type (wpAny_pure ⟨_,rfl,"dict_keyiterator",_,⟨_,Heap.get?_push_size _ rfl,rfl⟩,PySem.F.slot_dict_keyiterator_next.lookup,?_⟩));simpa [rawInt] using q)))
theorem AJ {Q:Option Value→Shared→Prop}(hit:s.heap.IsKeyIter it d i es.size ep)(r:RawD s.heap d es ep)(hi:i<es.size)
  (q:∀h',h'.IsKeyIter it d (i+1) es.size ep→Heap.SameBut it s.heap h'→Q (some es[i].key) {s with heap:=h'}):wpAny (model P w) A (pyNext (.ref it)) Q E s:=by
 have it':=hit;refine cj (it') fun io e1 c1 d1=>?_;refine cj (r) fun o e x dt=>?_;unfold pyNext;have own:Builtin.Dict_items.ownsTuple "dict_keyiterator" =false:=by decide
 refine wpAny_bind (wpAny_attempt (wpAny_callSpecial?_slot (name:=Str.ofString "__next__") hit.typeIs PySem.F.slot_dict_keyiterator_next (wpAny_call_entry PySem.F.slot_dict_keyiterator_next hit.typeIs PySem.F.entry_dict_keyiterator_next ?_ (PySem.F.args_dict_keyiterator_next_1 _))));refine wpAny_bind (wpAny_pure (wpAny_bind (wpAny_bind ?_)))
 first|refine wpAny_bind (wpAny_typeNameOfWhole_keyiter hit.typeIs (wpAny_pure (wpAny_bind (wpAny_fieldsOf e1 d1 ?_))))|refine wpAny_bind (wpAny_typeNameOf_keyiter hit.typeIs (wpAny_pure (wpAny_bind (wpAny_fieldsOf e1 d1 ?_))))
 simp only[own,false_eq_true,if_false];show wpAny _ _ (if (Value.ref d==Value.none)=true then _ else _) _ _ s
 rw[if_neg (show ¬((Value.ref d==Value.none)=true) from Bool.false_ne_true)];refine wpAny_bind (wpAny_pure (wpAny_bind (wpAny_dictEntries e dt ?_)));rw[if_neg (by simp)];refine wpAny_bind (wpAny_pure (wpAny_bind (wpAny_dictEpoch e dt ?_)));rw[if_neg (by simp)];refine wpAny_pure ?_;simp only[show ¬((i:Int)<0) from by omega,if_false,toNat_natCast,Array.getElem?_eq_getElem hi];refine wpAny_bind ?_
 first|refine wpAny_bind (wpAny_typeNameOfWhole_keyiter hit.typeIs (wpAny_pure (wpAny_bind (wpAny_isOneOf_keyiter hit.typeIs ?_))))|refine wpAny_bind (wpAny_typeNameOf_keyiter hit.typeIs (wpAny_pure (wpAny_bind (wpAny_isOneOf_keyiter hit.typeIs ?_))))
 show wpAny _ _ (setField (.ref it) 1 (rawInt ((i:Int)+1)) >>= _) _ _ s;refine wpAny_bind (wpAny_setField e1 d1 (by simp) ?_);have nx:(s.heap.update it (Obj.mapFields (·.setIfInBounds 1 (rawInt ((i:Int)+1))))).IsKeyIter it d (i+1) es.size ep:=(gW _ (Heap.get?_update_self _ e1 (Obj.isFreed_of_fields (Obj.data_mapFields d1 _))) ((Obj.cls_mapFields ..).trans c1) (by rw[Obj.data_mapFields d1];simp[rawInt]));refine wpAny_bind (wpAny_holding (wpAny_bind (wpAny_isOneOf_keyiter (s:={s with heap:=s.heap.update it (Obj.mapFields (·.setIfInBounds 1 (rawInt ((i:Int)+1))))}) nx.typeIs ?_)))
 show wpAny _ _ (pure es[i].key) _ _ _;exact wpAny_pure (wpAny_pure ⟨_,rfl,wpAny_pure (q _ nx (Heap.SameBut.update ..))⟩)
theorem Ds {Q:Option Value→Shared→Prop}(hh:A.handled=none)(hit:s.heap.IsKeyIter it d i es.size ep)(r:RawD s.heap d es ep)(hi:es.size≤i)
  (q:∀h',Heap.ExtBut it s.heap h'→Q none {s with heap:=h'}):wpAny (model P w) A (pyNext (.ref it)) Q E s:=by
 have it':=hit;refine cj (it') fun io e1 c1 d1=>?_;refine cj (r) fun o e x dt=>?_;unfold pyNext;have own:Builtin.Dict_items.ownsTuple "dict_keyiterator" =false:=by decide
 refine wpAny_bind (wpAny_attempt (wpAny_callSpecial?_slot (name:=Str.ofString "__next__") hit.typeIs PySem.F.slot_dict_keyiterator_next (wpAny_call_entry PySem.F.slot_dict_keyiterator_next hit.typeIs PySem.F.entry_dict_keyiterator_next ?_ (PySem.F.args_dict_keyiterator_next_1 _))));refine wpAny_bind (wpAny_pure (wpAny_bind (wpAny_bind ?_)))
 first|refine wpAny_bind (wpAny_typeNameOfWhole_keyiter hit.typeIs (wpAny_pure (wpAny_bind (wpAny_fieldsOf e1 d1 ?_))))|refine wpAny_bind (wpAny_typeNameOf_keyiter hit.typeIs (wpAny_pure (wpAny_bind (wpAny_fieldsOf e1 d1 ?_))))
 simp only[own,false_eq_true,if_false];show wpAny _ _ (if (Value.ref d==Value.none)=true then _ else _) _ _ s
 rw[if_neg (show ¬((Value.ref d==Value.none)=true) from Bool.false_ne_true)];refine wpAny_bind (wpAny_pure (wpAny_bind (wpAny_dictEntries e dt ?_)));rw[if_neg (by simp)];refine wpAny_bind (wpAny_pure (wpAny_bind (wpAny_dictEpoch e dt ?_)));rw[if_neg (by simp)];refine wpAny_pure ?_;simp only[show ¬((i:Int)<0) from by omega,if_false,toNat_natCast,Array.getElem?_eq_none hi];refine wpAny_bind ?_
 first|refine wpAny_bind (wpAny_typeNameOfWhole_keyiter hit.typeIs (wpAny_pure ?_));show wpAny _ _ (setField (.ref it) 0 .none >>= _) _ _ s|refine wpAny_bind (wpAny_typeNameOf_keyiter hit.typeIs (wpAny_pure ?_));show wpAny _ _ (setField (.ref it) 0 .none >>= _) _ _ s
 refine wpAny_bind (wpAny_setField e1 d1 (by simp) ?_);show wpAny _ _ (newExc (.type "StopIteration") [] >>= _) _ _ _;refine wpAny_bind ?_;simp only[newExc,newTuple];refine wpAny_bind (wpAny_newObj_type ?_ (by size_fits));refine wpAny_bind (m:=firstArgMember _ _) (wpAny_of_eq (a:=Value.none) (by first|rfl|(simp only[firstArgMember];rfl)) ?_)
 refine wpAny_newObj_type ?_ (by size_fits);simp only[raiseNew];refine wpAny_bind (wpAny_handled ?_);rw[show A.in1.handled=none from hh];refine wpAny_bind (wpAny_pure (wpAny_throw ?_));refine wpAny_bind (wpAny_isInstance (T:= "StopIteration") (b:=true) ⟨_,Heap.get?_push_size _ rfl,rfl⟩ isSubtype_stop ?_);exact wpAny_pure (q _ (((Heap.SameBut.update ..).extBut.push _).push _))
end
section
variable{P:Program}{w:World}{A:Around}{E:Value→Shared→Prop}{s:Shared}{d:Addr}{es:Array DictEntry}{ep:Nat}
theorem Dt {Q:Value→Shared→Prop}(hd:(d==sysModules)=false)(r:RawD s.heap d es ep)(hf:(es.size:Int)<2 ^ 63)(q:∀t t',Q (.int es.size t) {s with toks:=t'}):wpAny (model P w) A (call (.builtin "len") [.ref d]) Q E s:=by
 have ty:=r.ty;refine cj (r) fun o e x dt=>?_;refine Calls.call_function_entry kind_len plain_len entry_len (args_len1 _) ?_;unfold Builtin.«len»;refine wpAny_bind (m:=oneArg "len" _) (wpAny_pure ?_);refine wpAny_bind (m:=callSpecial? (.ref d) (Str.ofString "__len__")) (wpAny_callSpecial?_slot (name:=Str.ofString "__len__") ty PySem.F.slot_dict_len (wpAny_call_entry PySem.F.slot_dict_len ty PySem.F.entry_dict_len ?_ (PySem.F.args_dict_len_1 _)));unfold Builtin.«dict.__len__»;refine wpAny_bind ?_;unfold Builtin.Dict.dictSlotNone;refine wpAny_bind (wpAny_notOrdered_dict ty ?_);show wpAny _ _ (pure (Value.ref d)) _ _ s;refine wpAny_pure ?_;show wpAny _ _ (dictSize d >>= _) _ _ s;unfold dictSize;refine wpAny_bind (wpAny_bind (wpAny_dictEntries e dt (wpAny_pure ?_)));show wpAny _ _ (Builtin.Dict.pendingCount d >>= _) _ _ s;refine wpAny_bind (wpAny_pendingCount_other hd ?_);refine wpAny_ret_mkInt ?_;rw[show ((es.size:Int)+((0:Nat):Int))=(es.size:Int) from by simp];refine wpAny_bind (wpAny_holding (wpAny_pure ?_));refine wpAny_bind (wpAny_letGo ?_);show wpAny _ _ (if ((es.size:Nat):Int)<0 then _ else _) _ _ _;rw[if_neg (by omega)]
 show wpAny _ _ (if ((es.size:Nat):Int) ≥ 2 ^ 63 then _ else _) _ _ _;rw[if_neg (by omega)];exact wpAny_bind (wpAny_mkInt (wpAny_pure ⟨_,rfl,q _ _⟩))
end
end L2
namespace L2
open PySem PySem.Spec PyProof.Rows
noncomputable def JO (a:Addr)(o:Obj)(kvs:List (List bF×V)):It:=
 ⟨fun i H=>H a=some (.frz o (.dT kvs))∧i<kvs.length,fun i H x H'=>H'=H∧∃b k,(kvs.map (·.1))[i]?=some k∧x= .ref b∧H b=some (.tup (k.map kV)),fun i H=>H a=some (.frz o (.dT kvs))∧kvs.length≤i⟩
theorem Paired.at2 {α β:Type}{R:α→β→Prop}:∀{l:List α} {m:List β},Paired R l m→l.length=m.length∧∀(i:Nat) (h1:i<l.length) (h2:i<m.length),R l[i] m[i]
 |_,_,.nil=>⟨rfl,fun i h=>by cases h⟩
 |_,_,.cons r t=>by
  obtain⟨a,b⟩:=Paired.at2 t;refine⟨by rw[length_cons,length_cons,a],fun i h1 h2=>?_⟩;cases i with
  |zero=>exact r
  |succ i=>exact b i (by simpa using h1) (by simpa using h2)
theorem rn {X:Cx}{pins:List (Addr×Obj)}{σ:St}{H:Hp}{s:Shared}{a:Addr}{o:Obj}{kvs:List (List bF×V)}(I:Inv X pins σ H s)(h:H a=some (.frz o (.dT kvs))) :
  ∃es ep,o.data= .dict es ep∧RawD s.heap a es ep∧es.size=kvs.length∧(a==sysModules)=false∧kvs.length≤sizeLine∧∀(i:Nat) (h1:i<kvs.length) (h2:i<es.size),∃b,es[i].key= .ref b∧H b=some (.tup (kvs[i].1.map kV)):=by
 obtain⟨ho,z,hd,xs,pr,o',es,ep,ho',ex,dt,he,nd⟩:=(show ObjOk X.prog X.w H s.heap a (.frz o (.dT kvs)) from I.hok a _ h);rw[ho]at ho';cases ho';obtain⟨hl,at'⟩:=Paired.at2 pr;have hsz:es.size=kvs.length:=by rw[←length_toList,he,length_map,hl]
 refine(Fw es ep dt (gW o ho ex dt) hsz hd z (fun i h1 h2=>?_));have h3:i<xs.length:=by omega
 have e1:es[i]=entryOfKey (tupleKind (bY X.prog X.w)) xs[i]:=by
  have:es.toList[i]?=some (entryOfKey (tupleKind (bY X.prog X.w)) xs[i]):=by rw[he,getElem?_map,cz h3];rfl
  rw[Array.getElem?_toList,Array.getElem?_eq_getElem h2]at this;exact Option.some.inj this
 exact⟨xs[i].2.1,by rw[e1];rfl,(at' i h1 h3).2.1⟩
theorem yD {P:Program}{w:World}{K:W.Frag}{tg:Expr}(a it:Addr)(o:Obj)(kvs:List (List bF×V)):Turn P w K tg (JO a o kvs) [it] it (fun i h=>∃es ep,o.data= .dict es ep∧h.IsKeyIter it a i es.size ep) where
 mem:=by simp
 obj:=fun i h ⟨es,ep,_,st⟩ b x=>by
  have e:b=it:=by simpa using x
  subst e;refine cj (st) fun o e c d=>?_;exact⟨o,e,fun v z=>by rw[d]at z;cases z⟩
 keep:=fun i h h' ⟨es,ep,e,o,e1,c,d⟩ k=>⟨es,ep,e,o,k it (by simp) o e1,c,d⟩
 item:=by
  rintro X hP hw hK hc i pins s σ H E I hf ⟨es,ep,ed,st⟩ ⟨hg,hi⟩;subst hP hw hK;refine GV (rn I hg) fun es' ep' dt rw' hsz hd hz at'=>?_;rw[ed]at dt;cases dt;refine pY (hf it (by simp)) fun f0 f1 f2 f3 f4 f5=>?_;have hi':i<es.size:=by omega
  obtain⟨b,x,hH⟩:=at' i hi hi';refine AJ st rw' hi' fun h' st' sb=>?_;have I1:Inv X pins σ H {s with heap:=h'}:=I.turned (t':=s.toks) (fun b o x e=>(sb.2 b x).trans e) f0 f1 f3 f4 f5
  refine cj (id st') fun o e c d=>?_;rw[x];exact⟨_,rfl,wq (s:={s with heap:=h'}) e c d (by decide) (xW (.ref b) H I1 rfl (Fx rfl b (kvs[i].1) (by rw[getElem?_map,cz hi];rfl) rfl hH) (l8 es ep ed st') (fun b x=>(hf b x).1))⟩
 done:=by
  rintro X hP hw hK hc i pins s σ H E I hf ⟨es,ep,ed,st⟩ ⟨hg,hi⟩;subst hP hw hK;refine GV (rn I hg) fun es' ep' dt rw' hsz hd hz at'=>?_;rw[ed]at dt;cases dt;refine pY (hf it (by simp)) fun f0 f1 f2 f3 f4 f5=>?_;exact Ds (I.ok.hd hc) st rw' (by omega) fun h' eb=>⟨rfl,I.turned (t':=s.toks) (fun b o x e=>eb b o x e) f0 f1 f3 f4 f5⟩
 self:=fun _ _ _ _ _ ⟨es,ep,_,st⟩ h=>wpAny_pyIter_keyiter st h
noncomputable def kD:bF→D
 |.inl i=>.int i
 |.inr x=>.str x
noncomputable def CD (k:List bF):D:=.tup (k.map kD)
theorem AM {K:W.Frag}{G:Hp}:∀(k:List bF),RepL K G (k.map kD) (k.map kV):=by
 intro l_
 induction l_ with
 |nil=>
  exact .nil
 |cons k r ihh=>
  exact .cons (by cases k with|inl i=>exact rep_int.mpr rfl|inr x=>exact rep_str.mpr rfl) (ihh)
theorem AZ {K:W.Frag}{G:Hp}{a:Addr}{o:Obj}{kvs:List (List bF×V)}(h:G a=some (.frz o (.dT kvs))):Bu K (JO a o kvs) ((kvs.map (·.1)).map CD) G:=by
 intro G2 H2 g1 g2 i;refine⟨fun d hd=>?_,fun hl=>⟨g2 _ _ (g1 _ _ h),by simpa using hl⟩⟩;rw[getElem?_map]at hd;cases q:(kvs.map (·.1))[i]? with
 |none=>rw[q]at hd;cases hd
 |some k=>
  rw[q]at hd;cases hd;have hi:i<kvs.length:=by have:=(cU q).1;simpa using this
  refine⟨⟨g2 _ _ (g1 _ _ h),hi⟩,fun x H' hZ176=>?_⟩;refine m_ (hZ176) fun e b k' hk hx hH=>?_;subst e hx;rw[q]at hk;cases hk;have gg:Same G2 (bo G2 b (.tup (k.map kV))):=fun c u e=>by
   by_cases hc:c=b
   ·subst hc;have:=g2 _ _ e;rw[hH]at this;cases this;exact au
   ·rw[ak hc];exact e
  refine⟨bo G2 b (.tup (k.map kV)),⟨.refl _,gg,fun c u e=>?_,fun c u e=>?_⟩,rep_tup.mpr (dR b _ rfl (.of au) (AM k))⟩
  ·by_cases hc:c=b
   ·subst hc;rw[au]at e;rw[←e];exact hH
   ·rw[ak hc]at e;exact g2 c u e
  ·by_cases hc:c=b
   ·subst hc;rw[au]at e;cases e;exact .inr (.inr ⟨k,rfl⟩)
   ·rw[ak hc]at e;exact .inl e
noncomputable def tO:D→Res (List D)
 |.fdc ks _=>.ok (ks.map CD)
 |_=>.bad
section
variable{X:Cx}{E:XK}{μ:List Nat}{n:Nat}{tg:Expr}
theorem Ay {e:Expr}{f:DS→Res D}(h:PD X E e f):PI X tg e (tDI X.K E (fun ρ=>(f ρ).bind tO)):=by
 intro pins s σ H R I hZ32;obtain⟨G,ρ,hs,hro,ho,k⟩:=hZ32;refine aO (fS h pins s σ H (fun v H1=>∃a o S G1,v= .ref a∧Ext G H G1 H1∧G1 a=some (.frz o (.dT S))∧((f ρ).bind tO)= .ok ((S.map (·.1)).map CD)) I ⟨G,ρ,hs,hro,ho.fst,fun d e v G1 H1 x1 p1=>?_⟩) fun v s1 hZ177=>?_
 ·have kk:=ho.snd e x1.hh;cases d with
  |fdc ks l=>
   rw[rep_fdc]at p1;refine ja (p1) fun a o S hS155 ga hk rl=>?_;subst hS155;exact(oE a o S G1 rfl x1 ga (by rw[e,aD,←hk];rfl))
  |_=>exact kk.elim
 ·obtain⟨x,H1,I1,r1,a,o,S,G1,ex,x1,ga,ek⟩:=hZ177;subst ex;cases r1;refine GV (rn I1 (x1.gh _ _ ga)) fun es ep dt rw' hsz hd hz at'=>?_;refine AI hd rw' ?_;exact⟨s1.heap.objs.size,[s1.heap.objs.size],_,_,H1,rfl,I1.kept (t':=s1.toks) fun b o e=>Heap.get?_push_of_some _ e,yD a _ o S,⟨es,ep,dt,_,Heap.get?_push_size _ rfl,rfl,rfl⟩,fun b hb=>by
   have e:b=s1.heap.objs.size:=by simpa using hb
   subst e;exact I1.fpOk (le_refl _) (I1.hok.fresh (le_refl _)),k _ ek _ G1 H1 x1 (AZ ga)⟩
noncomputable def zV:List D→Res D
 | [.dct ks _]=>.ok (.int ks.length)
 | [.fdc ks _]=>.ok (.int ks.length)
 |_=>.bad
theorem xj:eD X (.builtin "len") (fun xs H Q=>∃a kvs,xs=[V.ref a]∧Rd H a (.dT kvs)∧Q (.int kvs.length) H):=by
 intro pins s σ H xs us Q I r h;refine cps fun PP kP=>?_;refine bA (h) fun a kvs hS156 ha q=>?_;subst hS156;obtain⟨u,rfl,ru⟩:=ke r;refine kP ?_;clear kP PP;cases ru;refine GS (AL I.hok ha) fun z hd xs pr o es ep ho ex dt he nd=>?_;obtain⟨hl,_⟩:=Paired.at2 pr;have hsz:es.size=kvs.length:=by rw[←length_toList,he,length_map,hl]
 have hz:=sizeLine_eq;exact Dt hd (gW o ho ex dt) (by omega) fun t t'=>⟨.int kvs.length,H,I.tok t',⟨t,by rw[hsz]⟩,q⟩
theorem BI {K:W.Frag}:Bo K E (fun xs H Q=>∃a kvs,xs=[V.ref a]∧Rd H a (.dT kvs)∧Q (.int kvs.length) H) zV:=by
 intro G H vs ds Q hs rl ok k;unfold zV at ok k;split at ok
 ·refine bA (rl.inv) fun v r hS157 rx r0=>?_;subst hS157;rw[r0.inv0];rw[rep_dct]at rx;refine pG (rx) fun a kvs hS158 rd hk _=>?_;subst hS158;subst hk;exact(dR a kvs rfl (hs.rd rd) (by have:=k _ _ G H rfl (.refl hs) (rep_int.mpr rfl);simpa using this))
 ·refine bA (rl.inv) fun v r hS159 rx r0=>?_;subst hS159;rw[r0.inv0];rw[rep_fdc]at rx;refine ja (rx) fun a o kvs hS160 rd hk _=>?_;subst hS160;subst hk;exact(dR a kvs rfl (hs.rd (.inr ⟨o,rd⟩)) (by have:=k _ _ G H rfl (.refl hs) (rep_int.mpr rfl);simpa using this))
 ·exact ok.elim
theorem CT {e:Expr}{p pos:Pos}{f:DS→Res D}(hm:X.mg "len" =none)(h:PD X E e f)(hg:Gl X "len" :=by rfl)(he:starEach [e] X.env=(false,eval e X.env)::starEach [] X.env:=by rfl):PD X E (.Call (.Name "len" p) [e] [] pos) (fun ρ=>(f ρ).bind fun a=>zV [a]):=
 wA ▸ fR (X:=X) (E:=E) (p:=p) (pos:=pos) xj BI hg hm PySem.boot_len (aa h ac he) (by decide) (by decide) he rfl
noncomputable def Cr:D→Res D
 |.dct ks l=>.ok (.fdc ks l)
 |_=>.bad
theorem Inv.frz {pins:List (Addr×Obj)}{σ:St}{H:Hp}{s:Shared}{a:Addr}{o:Obj}{kvs:List (List bF×V)}(I:Inv X pins σ H s)(h:H a=some (.dT kvs))(ho:s.heap.get? a=some o):Inv X pins σ (bo H a (.frz o (.dT kvs))) s:=by
 have ne:∀{b:Addr} {u:HO},H b=some u→u≠ .dT kvs→b≠a:=fun e hu z=>by subst z;rw[h]at e;cases e;exact hu rfl
 refine I.un (t':=s.toks) ⟨fun b u e _ _ _=>e,fun b u e _ _ _=>⟨u.slots,e⟩,fun b u _ n _=>?_,fun b u e _=>⟨u,e⟩,fun b xs e=>?_,fun b u v e=>?_,fun b ps e=>?_⟩ fun b u e=>?_
 ·rw[ak (fun z=>by subst z;rw[h]at n;cases n)];exact n
 ·rw[ak (ne e (fun z=>by cases z))];exact e
 ·rw[ak (ne e (fun z=>by cases z))];exact e
 ·exact⟨#[],by rw[ak (ne e (fun z=>by cases z)),e];simp⟩
 ·have st:∀{c:Addr} {v:HO},ObjOk X.prog X.w H s.heap c v→ObjOk X.prog X.w (bo H a (.frz o (.dT kvs))) s.heap c v:=fun x=>x.stay (fun _ _ _ e=>e) (fun b e=>by rw[ak (ne e (fun z=>by cases z))];exact e) fun b xs e=>by rw[ak (ne e (fun z=>by cases z))];exact e
  by_cases hb:b=a
  ·subst hb;rw[au]at e;cases e;exact⟨ho,st (I.hok _ _ h)⟩
  ·rw[ak hb]at e;exact st (I.hok b u e)
theorem PN.pdF {e:Expr}{f:DS→Res D}(h:PN X E (n+1) e f):PD X E e (fun ρ=>(f ρ).bind Cr):=by
 intro pins s σ G H ρ I hs hr ho;refine aO (h pins s σ G H ρ I hs hr ho.fst) fun u s' hZ178=>?_;obtain⟨d,e,v,G',H',S,I',rv,x,o,w⟩:=hZ178;have kk:=ho.snd e x.hh;cases d with
 |dct ks l=>
  refine cps fun PP kP=>?_;refine ie (o) fun a U T hS161 ha hk hS162 os=>?_;subst hS161;subst hS162;refine vW ((show ObjOk X.prog X.w H' s'.heap a (.dT U) from I'.hok a _ ha)) fun _ _ _ _ ob _ _ hob _=>?_;obtain⟨haT,ndT⟩:=nodup_cons.mp w.1;refine kP ?_;clear kP PP;have wa:=w.2 a (mem_cons_self ..);have wT:∀b∈T,H b=none∧G' b=none:=fun b hb=>w.2 b (cR hb);have dec:∀b,Decidable (b∈T):=fun b=>Classical.propDecidable _;have g3:∀b,(fun b=>if b=a then some (HO.frz ob (.dT U)) else if b∈T then H' b else G' b:Hp) b=if b=a then some (HO.frz ob (.dT U)) else if b∈T then H' b else G' b:=fun _=>rfl
  generalize hG3:(fun b=>if b=a then some (HO.frz ob (.dT U)) else if b∈T then H' b else G' b:Hp)=G3 at g3
  have ga:G3 a=some (.frz ob (.dT U)):=by rw[g3,if_pos rfl]
  have gT:∀b∈T,G3 b=H' b:=fun b hb=>by rw[g3,if_neg (fun (z:b=a)=>haT (z ▸ hb)),if_pos hb]
  have gO:∀b,b≠a→b∉T→G3 b=G' b:=fun b h1 h2=>by rw[g3,if_neg h1,if_neg h2]
  have sg:Same G' G3:=fun b u e=>by
   rw[gO b (fun z=>by subst z;rw[wa.2]at e;cases e) (fun z=>by rw[(wT b z).2]at e;cases e)];exact e
  refine⟨.fdc ks l,al e rfl,.ref a,G3,bo H' a (.frz ob (.dT U)),I'.frz ha hob,rv,⟨fun b u e=>?_,x.gg.trans sg,fun b u e=>?_,fun b u e=>?_⟩,rep_fdc.mpr (jb a ob U rfl ga hk (os.rep fun d v A hA ow=>ow.rep sg fun b hb u e=>by rw[gT b (hA b hb)];exact e))⟩
  ·rw[ak (fun z=>by subst z;rw[wa.1]at e;cases e)];exact x.hh b u e
  ·by_cases h1:b=a
   ·subst h1;rw[ga]at e;rw[au];exact e
   ·rw[ak h1];by_cases h2:b∈T
    ·rw[gT b h2]at e;exact e
    ·rw[gO b h1 h2]at e;exact x.gh b u e
  ·by_cases h1:b=a
   ·subst h1;exact .inr (.inl wa.1)
   ·by_cases h2:b∈T
    ·exact .inr (.inl (wT b h2).1)
    ·rw[gO b h1 h2]at e;exact x.nw b u e
 |_=>exact kk.elim
noncomputable def Ba (ns:List Int):List Int:=ns.mergeSort (fun a b=>decide (a≤b))
theorem mD (ns:List Int):(Ba ns).Perm ns:=List.mergeSort_perm ..
theorem ut (ns:List Int):(Ba ns).Pairwise (· ≤ ·):=by
 have h:=List.pairwise_mergeSort (le:=fun a b:Int=>decide (a≤b)) (fun a b c h1 h2=>by simp at *;omega) (fun a b=>by simp;omega) ns;exact h.imp fun {a b} h=>by simpa using h
theorem nX:∀{a b:List Int},a.Perm b→a.Pairwise (· ≤ ·)→b.Pairwise (· ≤ ·)→a=b
 | [],b,p,_,_=>(List.nil_perm.mp p).symm
 |x::a,[],p,_,_=>absurd p.length_eq (by simp)
 |x::a,y::b,p,h1,h2=>by
  obtain⟨i1,i2⟩:=pairwise_cons.mp h1;obtain⟨j1,j2⟩:=pairwise_cons.mp h2;have e:x=y:=by
   have hx:=p.mem_iff.mp (mem_cons_self (a:=x) (l:=a));have hy:=p.mem_iff.mpr (mem_cons_self (a:=y) (l:=b))
   rcases mem_cons.mp hx with z|z
   ·exact z
   ·rcases mem_cons.mp hy with z'|z'
    ·exact z'.symm
    ·have:=j1 x z;have:=i1 y z';omega
  subst e;rw[nX (List.perm_cons x |>.mp p) i2 j2]
theorem uB:∀{us:List Value} {ns:List Int},IntsAre us ns→Vals (ns.map V.int) us
 |_,_,.nil=>.nil
 |_,_,.cons n t h=>.cons ⟨t,rfl⟩ (uB h)
noncomputable def mz:List D→Res D
 | [.lst l]=>(match allInts l with|some ns=>if ns.length<64 then .ok (.lst ((Ba ns).map D.int)) else .bad|none=>.bad)
 |_=>.bad
theorem uO:eD X (.builtin "sorted") (fun xs H Q=>∃p ns,xs=[.ref p]∧gC X.K H p (ns.map V.int)∧ns.length<64∧∀l,H l=none→Q (.ref l) (bo H l (.lst ((Ba ns).map V.int)))):=by
 intro pins s σ H xs us Q I r h;refine cps fun PP kP=>?_;refine pG (h) fun p ns hS163 sq h64 q=>?_;subst hS163;obtain⟨u,rfl,ru⟩:=ke r;refine kP ?_;clear kP PP;cases (show u= .ref p from ru);refine cj (I.list sq) fun its rv pl hz=>?_;have hil:=rv.length;rw[length_map]at hil;refine sorted_ints pl.isList (fF rv) (by omega) fun out ns' a1 a2 a3=>?_;have e:ns'=Ba ns:=nX (a2.trans (mD ns).symm) a3 (ut ns);subst e;have hl:=(mD ns).length_eq;have key:=kC (vs:=its) (out:=out.toList) I (uB a1) (by rw[length_map,hl];have:=sizeLine_eq;omega) q;rw[Array.toArray_toList]at key;exact key
theorem AC {e:Expr}{p pos:Pos}{f:DS→Res D}(hm:X.mg "sorted" =none)(h:PD X E e f)(hg:Gl X "sorted" :=by rfl)(he:starEach [e] X.env=(false,eval e X.env)::starEach [] X.env:=by rfl):PD X E (.Call (.Name "sorted" p) [e] [] pos) (fun ρ=>(f ρ).bind fun a=>mz [a]):=by
 refine wA ▸ fR (X:=X) (E:=E) (p:=p) (pos:=pos) uO ?_ hg hm boot_sorted (aa h ac he) (by decide) (by decide) he rfl;intro G H vs ds Q hs rl ok k;unfold mz at ok k;split at ok
 ·rename_i l;obtain⟨v,r,rfl,rx,r0⟩:=rl.inv;rw[r0.inv0];dsimp only at ok k;cases q:allInts l with
  |none=>rw[q]at ok;exact ok.elim
  |some ns=>
   rw[q]at ok k;dsimp only at ok k;by_cases hc:ns.length<64
   ·rw[if_pos hc]at k;have el:=iA q;refine cps fun PP kP=>?_;subst el;rw[rep_lst]at rx;obtain⟨a,xs,rfl,sq,rx⟩:=rx;refine kP ?_;clear kP PP;have ex:=rx.ints;subst ex;exact⟨a,ns,rfl,hs.seq sq.sq,hc,fun l hl=>k _ _ _ _ rfl (.new hs hl _) (rep_lst.mpr ⟨l,_,rfl,.of au,.of_ints _⟩)⟩
   ·rw[if_neg hc]at ok;exact ok.elim
 ·exact ok.elim
noncomputable def wy (d e:D):Res D:=match d,e with
 |.bl a,.bl b=>.ok (.bl (a != b))
 |_,_=>.bad
theorem zc:DOp X E (compareOp .IsNot) wy:=by
 intro pins s σ G H x y dx dy v u I hs rx ry rv ru ok;unfold wy at ok ⊢;cases dx with
 |bl a=>
  cases dy with
  |bl b=>
   rw[rep_bl]at rx ry;subst rx ry;cases rv;cases ru;exact isnot_bool ⟨_,rfl,.bl (a != b),G,H,I,rfl,.refl hs,rep_bl.mpr rfl⟩
  |_=>exact ok.elim
 |_=>cases dy <;> exact ok.elim
end
noncomputable abbrev sD (f:DS→Res D):DS→Res (List D):=fun ρ=>(f ρ).bind tO
noncomputable abbrev Jk (f:DS→Res D):DS→Res D:=fun ρ=>(f ρ).bind Cr
end L2
namespace K09
open PySem L2
noncomputable def top (i:Nat):Stmt:=PySem.Challenge.pw_haltline_k09_whole_first_come.main.body.getD i (.Pass ⟨0,0,0,0⟩)
structure Txt (K:W.Frag)(mg:Str→Option Value)(CL:Addr):Prop where
 b_len:mg "len" =none
 b_list:mg "list" =none
 b_range:mg "range" =none
 b_isinstance:mg "isinstance" =none
 b_min:mg "min" =none
 b_max:mg "max" =none
 b_tuple:mg "tuple" =none
 b_sorted:mg "sorted" =none
 b_enumerate:mg "enumerate" =none
 b_zip:mg "zip" =none
 b_str:mg "str" =none
 b_int:mg "int" =none
 b_bool:mg "bool" =none
 b_abs:mg "abs" =none
 b_ValueError:mg "ValueError" =none
 mS:∃t,mg "MOST_STRETCHES" =some (.int 5 t)
 mR:∃t,mg "MOST_RUN" =some (.int 20 t)
 mC:∃t,mg "MOST_CLEAR" =some (.int 5 t)
 mT:∃t,mg "MOST_TRAINS" =some (.int 5 t)
 mY:∃t,mg "MOST_READY" =some (.int 60 t)
 mgL:mg "Line" =some (.ref CL)
 cl:Cls K CL
 nM:NoAttr K CL "minutes"
 nG:NoAttr K CL "gap"
section
variable{P:Program}{w:World}{K:W.Frag}{mg:Str→Option Value}{base:Heap}{CL:Addr}
seal L2.PD L2.mW L2.uG L2.PDW L2.Hd L2.PN L2.PZ L2.mX L2.uK L2.Je L2.Jf
noncomputable abbrev iV:Stmt:=top 13
noncomputable abbrev iu:List Str:=["runs","clear","run"]
@[irreducible] noncomputable def eQ (K:W.Frag)(CL:Addr):DS→Out:=(ax (i3 (i7 (iH (kI 1) (c1 (ab 0) bq) (kI 5) uI uI)) bad1 nxt)
  (ax (dP (sL (ab 0)) (bR 2) (i3 (i7 (iH (kI 1) (ab 2) (kI 20) uI uI)) bad1 nxt))
  (i3 (i7 (iH (kI 0) (ab 1) (kI 5) uI uI)) bad1 nxt)))
noncomputable def bx (K:W.Frag)(CL:Addr):List D→Res D:=gU 2 iu (eQ K CL)
theorem sc_check_line:FnScope iu ["runs","clear"] (ag iV):=⟨rfl,rfl,rfl,by decide +kernel,rfl,by decide +kernel,by decide +kernel⟩
theorem iD (T:Txt K mg CL)(S:Sta K mg "check_line" iV ["runs","clear"]):Cal P w K mg base "check_line" 1 ["runs","clear"] (freshSp K 0 (bx K CL)):=by
 refine S.cal (k:=0) (r:=0) (F:=eQ K CL) sc_check_line [] (by decide) rfl fun f cdv A outer s H E hr=>?_;unfold eQ;exact(af (bJ (bZ (ff iZ iZ ah (aW T.b_len (dv 0)) (t8 T.mS))) (ai cv) a_)
   (af (dJ (j:=2) PassesOwn.leaving rfl sc_check_line.nd rfl (.inl rfl) rfl (kU (bv (dv 0)))
    (ai (bJ (bZ (ff iZ iZ ah (dv 2) (t8 T.mR))) (ai cv) a_)))
   (ai (bJ (bZ (ff iZ iZ ah (dv 1) (t8 T.mC))) (ai cv) a_))))
noncomputable abbrev vI:Stmt:=jQ (top 12) 0
noncomputable abbrev vJ:Stmt:=jQ (top 12) 1
noncomputable abbrev si:Stmt:=jQ (top 12) 2
noncomputable def dz (CL:Addr):List D→Res D
 | [d]=>(ll CL "minutes" d).bind fun x=>dS [x]
 |_=>.bad
noncomputable def fG (CL:Addr):List D→Res D
 | [d]=>ll CL "gap" d
 |_=>.bad
noncomputable def j7 (K:W.Frag)(CL:Addr):List D→Res D
 | [.lst l,.int c]=>(bx K CL [.lst l,.int c]).bind fun _=>.ok (.ins CL ["minutes","gap"] [.tup l,.int c])
 |_=>.bad
theorem zW:Ey CL (j7 K CL):=by
 intro ds d h;unfold j7 at h;split at h
 ·rename_i l c;cases q:bx K CL [.lst l,.int c] with
  |ok x=>rw[q]at h;cases h;exact⟨_,_,rfl⟩
  |exc x=>rw[q]at h;cases h
  |bad=>rw[q]at h;cases h
 ·cases h
theorem qv {E:XK}{H:Hp}{ds:List D}(h:OkR E H (j7 K CL ds)):∃l c,ds=[.lst l,.int c]:=by
 unfold j7 at h;split at h
 ·exact⟨_,_,rfl⟩
 ·exact h.elim
theorem Cm (v u:V):iR "gap" u (iR "minutes" v [])=([("minutes",v),("gap",u)]:List (Str×V)):=by
 show (if ("minutes" :Str)= "gap" then [(("minutes" :Str),u)] else (("minutes" :Str),v)::iR "gap" u [])=([("minutes",v),("gap",u)]:List (Str×V))
 rw[if_neg (by decide +kernel)];rfl
theorem Dy:FnScope ["self","runs","clear"] ["self","runs","clear"] (ag vI):=⟨rfl,rfl,rfl,by decide +kernel,rfl,by decide +kernel,by decide +kernel⟩
theorem CN {f:Addr}{fd:FuncData}(F:Fun K "__init__" "Line.__init__" vI f fd)(T:Txt K mg CL)(iD:Cal P w K mg base "check_line" 1 ["runs","clear"] (freshSp K 0 (bx K CL))):FnOk P w K mg base (CXF P w) 2 f fd ["self","runs","clear"] (rD K CL (j7 K CL)):=by
 refine F.okF Dy (fun vs H Q E h=>?_) (fun cdv A outer s H vs Q E hr h=>?_)
 ·refine cps fun PP kP=>?_;obtain⟨p,dx,rest,ds,G,rfl,_,_,_,rl,ho,_⟩:=h;obtain⟨l,c,rfl⟩:=qv ho;refine kP ?_;clear kP PP;have:=rl.length;simp only[length_cons,length_nil]at this ⊢;omega
 ·refine cps fun PP kP=>?_;obtain⟨p,dx,rest,ds,G,rfl,hp,hs,gp,rl,ho,k⟩:=h;obtain⟨l,c,rfl⟩:=qv ho;refine kP ?_;clear kP PP
  ·refine cps fun PP kP=>?_;obtain⟨v1,r1,rfl,p1,rl⟩:=rl.inv;obtain⟨v2,r2,rfl,p2,rl⟩:=rl.inv;refine kP ?_;clear kP PP;cases rl.inv0;have ho':OkR E H ((bx K CL [.lst l,.int c]).bind fun _=>.ok (D.ins CL ["minutes","gap"] [.tup l,.int c])):=ho;refine⟨_,ud (gr (fS (E:=E) (aI iD hr (aa (dv 1) (aa (dv 2) ac)))))
    (ud (AF (pv 0) (fS (E:=E) (Ao T.b_tuple (dv 1))) rfl) (wU (AF (pv 0) (pv 2) rfl))),?_⟩
   have ro:Ro K G (gu ["self","runs","clear"] [.ref p,v1,v2]) [none,some (.lst l),some (.int c)]:=Ro.skip (Ro.cons p1 (Ro.cons p2 Ro.nil));refine⟨G,_,hs,ro,ho'.fst,fun d ed v G1 H1 x1 rp1=>?_⟩;refine⟨G1,_,x1.gh,ro.mono x1.gg,trivial,fun d2 ed2 u G2 H2 x2 rp2=>?_⟩;have ed3:d2= .tup l:=by cases ed2;rfl
   subst ed3;have x:=x1.trans x2;have h2p:H2 p=some (.ins CL dx []):=x.hh _ _ hp;have g2p:G2 p=none:=by
    cases q:G2 p with
    |none=>rfl
    |some o=>
     rcases x.nw p o q with z|z|⟨ks,z⟩
     ·rw[gp]at z;cases z
     ·rw[hp]at z;cases z
     ·have h3:=x.gh p o q;rw[h2p]at h3;cases h3;cases z
   refine⟨_,rfl,p,CL,dx,[],rfl,h2p,T.cl,T.nM,(by show 0<1000;decide),_,rfl,_,rfl,p,CL,dx,_,rfl,au,T.cl,T.nG,(by show 1<1000;decide),?_⟩;refine k ["minutes","gap"] [.tup l,.int c] ?_ [("minutes",u),("gap",v2)] G2 _ rfl (.cons rp2 (.cons (p2.mono x.gg) .nil)) (by rw[au,Cm]) (fun b o e hb=>?_) x.gg (fun b o e=>?_) x.nw g2p
   ·show (bx K CL [.lst l,.int c]).bind _=_;have:bx K CL [.lst l,.int c]= .ok d:=ed;rw[this];rfl
   ·rw[ak hb,ak hb];exact x.hh b o e
   ·have hb:b≠p:=fun z=>by subst z;rw[g2p]at e;cases e
    rw[ak hb,ak hb];exact x.gh b o e
theorem Dz:FnScope ["self"] ["self"] (ag vJ):=⟨rfl,rfl,rfl,by decide +kernel,rfl,by decide +kernel,by decide +kernel⟩
theorem CP {f:Addr}{fd:FuncData}(F:Fun K "runs" "Line.runs" vJ f fd)(T:Txt K mg CL):FnOk P w K mg base (CXF P w) 1 f fd ["self"] (pureSp K (dz CL)):=by
 refine F.pure Dz (fun ds h=>?_) (fun cdv A outer s H E hr=>?_)
 ·unfold dz at h;split at h
  ·rfl
  ·exact absurd rfl h
 ·refine⟨_,wS (AE (mq iG wf rfl T.b_list kZ (aa (Ai (dv 0) T.cl T.nM) ac))),?_⟩;intro ds h
  match ds,h with
  | [d],h=>
   show fQ ((((ll CL "minutes" d).bind _).bind _).out _)=(ll CL "minutes" d).bind _;cases ll CL "minutes" d with
   |ok x=>
    show fQ ((dS [x]).out Out.rt)=dS [x];cases dS [x] <;> rfl
   |_=>rfl
  | [],h=>exact absurd rfl h
  |_::_::_,h=>exact absurd rfl h
theorem AU:FnScope ["self"] ["self"] (ag si):=⟨rfl,rfl,rfl,by decide +kernel,rfl,by decide +kernel,by decide +kernel⟩
theorem Af {f:Addr}{fd:FuncData}(F:Fun K "clear" "Line.clear" si f fd)(T:Txt K mg CL):FnOk P w K mg base (CXF P w) 1 f fd ["self"] (pureSp K (fG CL)):=by
 refine F.pure AU (fun ds h=>?_) (fun cdv A outer s H E hr=>?_)
 ·unfold fG at h;split at h
  ·rfl
  ·exact absurd rfl h
 ·refine⟨_,wS (AE (Ai (dv 0) T.cl T.nG)),?_⟩;intro ds h
  match ds,h with
  | [d],h=>
   show fQ ((ll CL "gap" d).out _)=ll CL "gap" d;cases ll CL "gap" d <;> rfl
  | [],h=>exact absurd rfl h
  |_::_::_,h=>exact absurd rfl h
noncomputable abbrev iT:Stmt:=top 44
noncomputable abbrev iq:List Str:=["script","k","many","cell","stir"]
@[irreducible] noncomputable def eO (K:W.Frag)(CL:Addr):DS→Out:=(ax (aT 3 (kI 7))
  (ax (i3 (f8 (ae (c1 (ab 0) bq) (kI 0) IV)) (aT 3 (ae (ab 0) (ae (ab 1) (c1 (ab 0) bq) kJ) aL)) nxt)
  (ax (aT 4 (ae (ae (ae (ae (ab 3) (kI 48271) fO) (ae (ae (ab 1) (kI 1) aZ) (kI 7919) fO) aZ) (c1 (ab 0) bq) aZ) (kI 2147483647) kJ))
  (ax (aT 4 (ae (ae (ae (ae (ab 4) (ab 4) fO) (ae (ab 1) (kI 16807) fO) aZ) (kI 11) aZ) (kI 2147483647) kJ))
  (bw (ae (ae (ae (ae (ab 4) (kI 48271) fO) (kI 2147483647) kJ) (kI 16) tE) (ab 2) kJ))))))
noncomputable def aE (K:W.Frag)(CL:Addr):List D→Res D:=gU 3 iq (eO K CL)
theorem sc__law_drawn:FnScope iq ["script","k","many"] (ag iT):=⟨rfl,rfl,rfl,by decide +kernel,rfl,by decide +kernel,by decide +kernel⟩
theorem aP (T:Txt K mg CL)(S:Sta K mg "_law_drawn" iT ["script","k","many"]):Cal P w K mg base "_law_drawn" 1 ["script","k","many"] (freshSp K 0 (aE K CL)):=by
 refine S.cal (k:=0) (r:=0) (F:=eO K CL) sc__law_drawn [] (by decide) rfl fun f cdv A outer s H E hr=>?_;unfold eO;exact(af (az (i:=3) sc__law_drawn.nd rfl (.inl rfl) (ay (PN.of ah)))
   (af (bJ (aY DY (aW T.b_len (dv 0)) ah (bz _)) (ai (az (i:=3) sc__law_drawn.nd rfl (.inl rfl) (ay (PN.of (aw (dv 0) (ar ky (dv 1) (aW T.b_len (dv 0)))))))) a_)
   (af (az (i:=4) sc__law_drawn.nd rfl (.inl rfl) (ay (PN.of (ar ky (ar aA (ar aA (ar dq (dv 3) ah) (ar dq (ar aA (dv 1) ah) ah)) (aW T.b_len (dv 0))) ah))))
   (af (az (i:=4) sc__law_drawn.nd rfl (.inl rfl) (ay (PN.of (ar ky (ar aA (ar aA (ar dq (dv 4) (dv 4)) (ar dq (dv 1) ah)) ah) ah))))
   (ai (aM (ay (PN.of (ar ky (ar BM (ar ky (ar dq (dv 4) ah) ah) ah) (dv 2))))))))))
noncomputable abbrev iU:Stmt:=top 45
noncomputable abbrev ir:List Str:=["found"]
@[irreducible] noncomputable def eP (K:W.Frag)(CL:Addr):DS→Out:=(bw (Bz (fun ρ=>((ab 0) ρ).bind (lw K (cV (.ty "int")))) (FU (fun ρ=>((ab 0) ρ).bind (lw K (cV (.ty "bool")))))))
noncomputable def dA (K:W.Frag)(CL:Addr):List D→Res D:=gU 1 ir (eP K CL)
theorem pU:FnScope ir ["found"] (ag iU):=⟨rfl,rfl,rfl,by decide +kernel,rfl,by decide +kernel,by decide +kernel⟩
theorem iC (T:Txt K mg CL)(S:Sta K mg "_law_whole" iU ["found"]):Cal P w K mg base "_law_whole" 1 ["found"] (freshSp K 0 (dA K CL)):=by
 refine S.cal (k:=0) (r:=0) (F:=eP K CL) pU [] (by decide) rfl fun f cdv A outer s H E hr=>?_;unfold eP;exact(ai (aM (ay (PN.of (Ah (wE T.b_isinstance (dv 0) (rS rfl T.b_int EF rfl)) (Al (Gf (wE T.b_isinstance (dv 0) (rS rfl T.b_bool BD rfl)))))))))
noncomputable abbrev kO:Stmt:=top 46
noncomputable abbrev kg:List Str:=["found","due","k"]
@[irreducible] noncomputable def ig (K:W.Frag)(CL:Addr):DS→Out:=(ax (i3 (GY (i7 (f8 (fun ρ=>((ab 0) ρ).bind (lw K (cV (.ty "list")))))) (f8 (ae (c1 (ab 0) bq) (c1 (ab 1) bq) sG))) (bw (kB false)) nxt)
  (ax (dP (sR1 (pC (c1 (ab 1) bq) pN)) (bR 2) (i3 (GY (i7 (f8 (bL (pC (ae (ab 0) (ab 2) aL) pN) (dA K CL)))) (f8 (ae (ae (ab 0) (ab 2) aL) (ae (ab 1) (ab 2) aL) sG))) (bw (kB false)) nxt))
  (bw (kB true))))
noncomputable def fH (K:W.Frag)(CL:Addr):List D→Res D:=gU 2 kg (ig K CL)
theorem sc__law_row:FnScope kg ["found","due"] (ag kO):=⟨rfl,rfl,rfl,by decide +kernel,rfl,by decide +kernel,by decide +kernel⟩
theorem kj (T:Txt K mg CL)(S:Sta K mg "_law_row" kO ["found","due"])(iC:Cal P w K mg base "_law_whole" 1 ["found"] (freshSp K 0 (dA K CL))):Cal P w K mg base "_law_row" 2 ["found","due"] (freshSp K 0 (fH K CL)):=by
 refine S.cal (k:=1) (r:=0) (F:=ig K CL) sc__law_row [] (by decide) rfl fun f cdv A outer s H E hr=>?_;unfold ig;exact(af (bJ (PDW.pt (rR (bZ (iP (wE T.b_isinstance (dv 0) (En T.b_list kZ)))) (nJ (aY (la hr.units) (aW T.b_len (dv 0)) (aW T.b_len (dv 1)) (bz _))))) (ai (aM (ay (PN.of dU)))) a_)
   (af (dJ (j:=2) PassesOwn.leaving rfl sc__law_row.nd rfl (.inl rfl) rfl (d9 rfl T.b_range (aa (aW T.b_len (dv 1)) ac))
    (ai (bJ (PDW.pt (rR (bZ (iP (aI iC hr (aa (aw (dv 0) (dv 2)) ac)))) (nJ (aY (la hr.units) (aw (dv 0) (dv 2)) (aw (dv 1) (dv 2)) (bz _))))) (ai (aM (ay (PN.of dU)))) a_)))
   (ai (aM (ay (PN.of dU))))))
noncomputable abbrev jG:Stmt:=top 47
noncomputable abbrev jc:List Str:=["found","due","k"]
@[irreducible] noncomputable def f9 (K:W.Frag)(CL:Addr):DS→Out:=(ax (i3 (GY (i7 (f8 (fun ρ=>((ab 0) ρ).bind (lw K (cV (.ty "list")))))) (f8 (ae (c1 (ab 0) bq) (c1 (ab 1) bq) sG))) (bw (kB false)) nxt)
  (ax (dP (sR1 (pC (c1 (ab 1) bq) pN)) (bR 2) (i3 (i7 (f8 (bL (pC (ae (ab 0) (ab 2) aL) (pC (ae (ab 1) (ab 2) aL) pN)) (fH K CL)))) (bw (kB false)) nxt))
  (bw (kB true))))
noncomputable def cW (K:W.Frag)(CL:Addr):List D→Res D:=gU 2 jc (f9 K CL)
theorem sc__law_rows:FnScope jc ["found","due"] (ag jG):=⟨rfl,rfl,rfl,by decide +kernel,rfl,by decide +kernel,by decide +kernel⟩
theorem jf (T:Txt K mg CL)(S:Sta K mg "_law_rows" jG ["found","due"])(kj:Cal P w K mg base "_law_row" 2 ["found","due"] (freshSp K 0 (fH K CL))):Cal P w K mg base "_law_rows" 3 ["found","due"] (freshSp K 0 (cW K CL)):=by
 refine S.cal (k:=2) (r:=0) (F:=f9 K CL) sc__law_rows [] (by decide) rfl fun f cdv A outer s H E hr=>?_;unfold f9;exact(af (bJ (PDW.pt (rR (bZ (iP (wE T.b_isinstance (dv 0) (En T.b_list kZ)))) (nJ (aY (la hr.units) (aW T.b_len (dv 0)) (aW T.b_len (dv 1)) (bz _))))) (ai (aM (ay (PN.of dU)))) a_)
   (af (dJ (j:=2) PassesOwn.leaving rfl sc__law_rows.nd rfl (.inl rfl) rfl (d9 rfl T.b_range (aa (aW T.b_len (dv 1)) ac))
    (ai (bJ (bZ (iP (aI kj hr (aa (aw (dv 0) (dv 2)) (aa (aw (dv 1) (dv 2)) ac))))) (ai (aM (ay (PN.of dU)))) a_)))
   (ai (aM (ay (PN.of dU))))))
noncomputable abbrev dL:Stmt:=top 48
noncomputable abbrev dg:List Str:=["script","base","many","runs"]
@[irreducible] noncomputable def cZ (K:W.Frag)(CL:Addr):DS→Out:=(ax (aT 2 (ae (kI 1) (bL (pC (ab 0) (pC (ab 1) (pC (kI 5) pN))) (aE K CL)) aZ))
  (ax (aT 3 (bm (sR1 (pC (ab 2) pN)) [none,some 0,some 1] (bR 0) yes (ae (kI 1) (bL (pC (ab 1) (pC (ae (ae (ab 2) (kI 2) aZ) (ab 0) aZ) (pC (ae (gJ (pC (kI 4) (pC (kI 20) pN))) (bL (pC (ab 1) (pC (ae (ab 2) (kI 1) aZ) (pC (kI 2) pN))) (aE K CL)) aL) pN))) (aE K CL)) aZ)))
  (bw (f7 (pC (ab 3) (pC (bL (pC (ab 0) (pC (ae (ab 1) (kI 8) aZ) (pC (kI 6) pN))) (aE K CL)) pN))))))
noncomputable def cq (K:W.Frag)(CL:Addr):List D→Res D:=gU 2 dg (cZ K CL)
theorem sc__law_line_by:FnScope dg ["script","base"] (ag dL):=⟨rfl,rfl,rfl,by decide +kernel,rfl,by decide +kernel,by decide +kernel⟩
theorem fq (T:Txt K mg CL)(S:Sta K mg "_law_line_by" dL ["script","base"])(aP:Cal P w K mg base "_law_drawn" 1 ["script","k","many"] (freshSp K 0 (aE K CL))):Cal P w K mg base "_law_line_by" 2 ["script","base"] (freshSp K 0 (cq K CL)):=by
 refine S.cal (k:=1) (r:=0) (F:=cZ K CL) sc__law_line_by [] (by decide) rfl fun f cdv A outer s H E hr=>?_;unfold cZ;exact(af (az (i:=2) sc__law_line_by.nd rfl (.inl rfl) (ay (PN.of (ar aA ah (aI aP hr (aa (dv 0) (aa (dv 1) (aa ah ac))))))))
   (af (wQ (jF sc__law_line_by.nd (i:=3) rfl rfl rfl (aR (N:=["k","script","base"]) (caps:=[none,some 0,some 1]) (ag dL) dg rfl rfl (by decide +kernel)) (j:=0) rfl rfl rfl (kL rfl T.b_range (aa (dv 2) ac)) (fun _ _ _ _=>bg) (fun _ _ _ _=>(PN.of (ar aA ah (aI aP hr (aa (dv 1) (aa (ar aA (ar aA (dv 2) ah) (dv 0)) (aa (aw (oZ (aa ah (aa ah ac))) (aI aP hr (aa (dv 1) (aa (ar aA (dv 2) ah) (aa ah ac))) eJ)) ac))) eJ))))) rfl)
   (ai (aM (ay (PN.of (d6 (aa (dv 3) (aa (aI aP hr (aa (dv 0) (aa (ar aA (dv 1) ah) (aa ah ac)))) ac)))))))))
noncomputable abbrev d8:Stmt:=top 49
noncomputable abbrev bQ:List Str:=["script","base","stretches","most","trains","k","start","goal"]
noncomputable abbrev aX:List Nat:=[0,0,0,0,1,0,0,0]
@[irreducible] noncomputable def bD (K:W.Frag)(CL:Addr):DS→Out:=(ax (aT 4 (dQ aX (gJ pN)))
  (ax (dP (sR1 (pC (ae (kI 1) (bL (pC (ab 0) (pC (ab 1) (pC (ab 3) pN))) (aE K CL)) aZ) pN)) (bR 5) (ax (aT 6 (dQ aX (bL (pC (ab 0) (pC (ae (ae (ab 1) (kI 1) aZ) (ae (kI 5) (ab 5) fO) aZ) (pC (ae (ab 2) (kI 1) aZ) pN))) (aE K CL))))
  (ax (aT 7 (dQ aX (ae (ae (ae (ab 6) (kI 1) aZ) (bL (pC (ab 0) (pC (ae (ae (ab 1) (kI 2) aZ) (ae (kI 5) (ab 5) fO) aZ) (pC (ab 2) pN))) (aE K CL)) aZ) (ae (ab 2) (kI 1) aZ) kJ)))
  (ax (i3 (f8 (ae (bL (pC (ab 0) (pC (ae (ae (ab 1) (kI 3) aZ) (ae (kI 5) (ab 5) fO) aZ) (pC (kI 3) pN))) (aE K CL)) (kI 1) Bp)) (ax (aT 6 (dQ aX (ae (bL (pC (ab 0) (pC (ae (ae (ab 1) (kI 4) aZ) (ae (kI 5) (ab 5) fO) aZ) (pC (kI 2) pN))) (aE K CL)) (ab 2) fO)))
  (aT 7 (dQ aX (ae (ab 2) (ab 6) ux)))) nxt)
  (nW 4 (dQ aX (f7 (pC (ab 6) (pC (ab 7) (pC (bL (pC (ab 0) (pC (ae (ae (ab 1) (kI 5) aZ) (ae (kI 5) (ab 5) fO) aZ) (pC (ae (gJ (pC (kI 1) (pC (kI 9) (pC (kI 61) pN)))) (bL (pC (ab 0) (pC (ae (ab 1) (kI 40) aZ) (pC (kI 3) pN))) (aE K CL)) aL) pN))) (aE K CL)) pN))))))))))
  (bw (ab 4))))
noncomputable def bE (K:W.Frag)(CL:Addr):List D→Res D:=gU 4 bQ (bD K CL)
theorem sc__law_trains_by:FnScope bQ ["script","base","stretches","most"] (ag d8):=⟨rfl,rfl,rfl,by decide +kernel,rfl,by decide +kernel,by decide +kernel⟩
theorem dX (T:Txt K mg CL)(S:Sta K mg "_law_trains_by" d8 ["script","base","stretches","most"])(aP:Cal P w K mg base "_law_drawn" 1 ["script","k","many"] (freshSp K 0 (aE K CL))):Cal P w K mg base "_law_trains_by" 2 ["script","base","stretches","most"] (freshSp K 1 (bE K CL)):=by
 refine S.cal (k:=1) (r:=1) (F:=bD K CL) sc__law_trains_by aX (by decide) rfl fun f cdv A outer s H E hr=>?_;unfold bD;exact(af (az (i:=4) sc__law_trains_by.nd rfl (.inl rfl) (aF (kM ac)))
   (af (dJ (j:=5) PassesOwn.leaving rfl sc__law_trains_by.nd rfl (.inl rfl) rfl (d9 rfl T.b_range (aa (ar aA ah (aI aP hr (aa (dv 0) (aa (dv 1) (aa (dv 3) ac))))) ac))
    (af (az (i:=6) sc__law_trains_by.nd rfl (.inl rfl) (aF (PN.of (aI aP hr (aa (dv 0) (aa (ar aA (ar aA (dv 1) ah) (ar dq ah (dv 5))) (aa (ar aA (dv 2) ah) ac)))))))
   (af (az (i:=7) sc__law_trains_by.nd rfl (.inl rfl) (aF (PN.of (ar ky (ar aA (ar aA (dv 6) ah) (aI aP hr (aa (dv 0) (aa (ar aA (ar aA (dv 1) ah) (ar dq ah (dv 5))) (aa (dv 2) ac))))) (ar aA (dv 2) ah)))))
   (af (bJ (aY (wg hr.units) (aI aP hr (aa (dv 0) (aa (ar aA (ar aA (dv 1) ah) (ar dq ah (dv 5))) (aa ah ac)))) ah (bz _)) (af (az (i:=6) sc__law_trains_by.nd rfl (.inl rfl) (aF (PN.of (ar dq (aI aP hr (aa (dv 0) (aa (ar aA (ar aA (dv 1) ah) (ar dq ah (dv 5))) (aa ah ac)))) (dv 2)))))
   (ai (az (i:=7) sc__law_trains_by.nd rfl (.inl rfl) (aF (PN.of (ar og (dv 2) (dv 6))))))) a_)
   (ai (mw (j:=4) (n:=0) rfl rfl (.inl rfl) (aF (PN.of (d6 (aa (dv 6) (aa (dv 7) (aa (aI aP hr (aa (dv 0) (aa (ar aA (ar aA (dv 1) ah) (ar dq ah (dv 5))) (aa (aw (oZ (aa ah (aa ah (aa ah ac)))) (aI aP hr (aa (dv 0) (aa (ar aA (dv 1) ah) (aa ah ac))))) ac)))) ac))))))))))))
   (ai (jW (i:=4) rfl rfl (.inl rfl)))))
noncomputable abbrev fY:Stmt:=top 50
noncomputable abbrev fj:List Str:=["train"]
@[irreducible] noncomputable def ii (K:W.Frag)(CL:Addr):DS→Out:=(ax (i3 (f8 (ae (ae (ab 0) (kI 0) aL) (ae (ab 0) (kI 1) aL) wv)) (bw (bm (sR2 (pC (ae (ab 0) (kI 0) aL) (pC (ae (ab 0) (kI 1) aL) pN))) [none] (bR 0) yes (ab 0))) nxt)
  (bw (ae (bm (sR2 (pC (ae (ab 0) (kI 1) aL) (pC (ae (ab 0) (kI 0) aL) pN))) [none] (bR 0) yes (ab 0)) (nG (kI 1)) ug)))
noncomputable def bH (K:W.Frag)(CL:Addr):List D→Res D:=gU 1 fj (ii K CL)
theorem uk:FnScope fj ["train"] (ag fY):=⟨rfl,rfl,rfl,by decide +kernel,rfl,by decide +kernel,by decide +kernel⟩
theorem fu (T:Txt K mg CL)(S:Sta K mg "_law_way" fY ["train"]):Cal P w K mg base "_law_way" 1 ["train"] (freshSp K 0 (bH K CL)):=by
 refine S.cal (k:=0) (r:=0) (F:=ii K CL) uk [] (by decide) rfl fun f cdv A outer s H E hr=>?_;unfold ii;exact(af (bJ (aY mG (aw (dv 0) ah) (aw (dv 0) ah) (bz _)) (ai (aM (ay (PN.of (PN.pd (b0 (j:=0) rfl (aR (N:=["k"]) (caps:=[none]) (ag fY) fj rfl rfl (by decide +kernel)) rfl rfl rfl (o_ rfl T.b_range (aa (aw (dv 0) ah) (aa (aw (dv 0) ah) ac))) (fun _ _ _ _=>bg) (fun _ _ _ _=>(PN.of (dv 0))))))))) a_)
   (ai (aM (ay (PN.of (PN.pd (Gu (PN.pd (b0 (j:=0) rfl (aR (N:=["k"]) (caps:=[none]) (ag fY) fj rfl rfl (by decide +kernel)) rfl rfl rfl (o_ rfl T.b_range (aa (aw (dv 0) ah) (aa (aw (dv 0) ah) ac))) (fun _ _ _ _=>bg) (fun _ _ _ _=>(PN.of (dv 0))))) (vA ah))))))))
noncomputable abbrev bi:Stmt:=top 52
noncomputable abbrev bd:List Str:=["runs","gap","trains","table","free","there","some","k","stretch","pick"]
noncomputable abbrev aH:List Nat:=[0,0,0,2,1,1,1,0,0,0]
@[irreducible] noncomputable def cf (K:W.Frag)(CL:Addr):DS→Out:=(ax (aT 3 (dQ aH (bm (sL (ab 2)) [none] (bR 0) yes (gJ pN))))
  (ax (aT 4 (dQ aH (bm (sL (ab 0)) [none] (bR 0) yes (kI 0))))
  (ax (aT 5 (dQ aH (bm (sL (ab 2)) [none] (bR 0) yes (ae (ab 0) (kI 2) aL))))
  (ax (cy (f8 (ae (c1 (bm (sR1 (pC (c1 (ab 2) bq) pN)) [none,some 3,some 2] (bR 0) yes (ae (c1 (ae (ab 1) (ab 0) aL) bq) (c1 (bL (pC (ae (ab 2) (ab 0) aL) pN) (bH K CL)) bq) ux)) pT) (kI 0) wv)) (ax (aT 6 (dQ aH (gJ pN)))
  (ax (dP (sR1 (pC (c1 (ab 2) bq) pN)) (bR 7) (i3 (f8 (ae (c1 (ae (ab 3) (ab 7) aL) bq) (c1 (bL (pC (ae (ab 2) (ab 7) aL) pN) (bH K CL)) bq) wv)) (ax (aT 8 (oQ 0 (ae (bL (pC (ae (ab 2) (ab 7) aL) pN) (bH K CL)) (c1 (ae (ab 3) (ab 7) aL) bq) aL)))
  (nW 6 (oQ 0 (f7 (pC (bL (pC (ae (ab 5) (ab 7) aL) (pC (ae (ab 4) (ab 8) aL) pN)) qw) (pC (ab 7) (pC (ab 8) pN))))))) nxt))
  (ax (aT 9 (oQ 0 (c1 (ab 6) hV)))
  (ax (sf 3 (ae (ab 9) (kI 1) aL) (dQ aH (ae (ab 9) (kI 0) aL)))
  (ax (pj 5 (ae (ab 9) (kI 1) aL) (dQ aH (ae (ae (ab 9) (kI 0) aL) (ae (ab 0) (ae (ab 9) (kI 2) aL) aL) aZ)))
  (pj 4 (ae (ab 9) (kI 2) aL) (oQ 0 (ae (ae (ab 5) (ae (ab 9) (kI 1) aL) aL) (ab 1) aZ)))))))) 60)
  (bw (ab 3))))))
noncomputable def bO (K:W.Frag)(CL:Addr):List D→Res D:=gU 3 bd (cf K CL)
theorem sc__law_first_come:FnScope bd ["runs","gap","trains"] (ag bi):=⟨rfl,rfl,rfl,by decide +kernel,rfl,by decide +kernel,by decide +kernel⟩
theorem dl (T:Txt K mg CL)(S:Sta K mg "_law_first_come" bi ["runs","gap","trains"])(fu:Cal P w K mg base "_law_way" 1 ["train"] (freshSp K 0 (bH K CL))):Cal P w K mg base "_law_first_come" 2 ["runs","gap","trains"] (freshSp K 2 (bO K CL)):=by
 refine S.cal (k:=1) (r:=2) (F:=cf K CL) sc__law_first_come aH (by decide) rfl fun f cdv A outer s H E hr=>?_;unfold cf;exact(af (az (i:=3) sc__law_first_come.nd rfl (.inr rfl) (aF (b0 (j:=0) rfl (aR (N:=["train"]) (caps:=[none]) (ag bi) bd rfl rfl (by decide +kernel)) rfl rfl rfl (bv (dv 2)) (fun _ _ _ _=>bg) (fun _ _ _ _=>(kM ac)))))
   (af (vF (jF sc__law_first_come.nd (i:=4) rfl rfl rfl (aR (N:=["run"]) (caps:=[none]) (ag bi) bd rfl rfl (by decide +kernel)) (j:=0) rfl rfl rfl (bv (dv 0)) (fun _ _ _ _=>bg) (fun _ _ _ _=>(PN.of ah))) rfl rfl)
   (af (vF (jF sc__law_first_come.nd (i:=5) rfl rfl rfl (aR (N:=["train"]) (caps:=[none]) (ag bi) bd rfl rfl (by decide +kernel)) (j:=0) rfl rfl rfl (bv (dv 2)) (fun _ _ _ _=>bg) (fun _ _ _ _=>(PN.of (aw (dv 0) ah)))) rfl rfl)
   (af (pb 60 PassesOwn.leaving (aY mG (CY T.b_min (PN.pd (b0 (j:=0) rfl (aR (N:=["k","table","trains"]) (caps:=[none,some 3,some 2]) (ag bi) bd rfl rfl (by decide +kernel)) rfl rfl rfl (kL rfl T.b_range (aa (aW T.b_len (dv 2)) ac)) (fun _ _ _ _=>bg) (fun _ _ _ _=>(PN.of (ar og (aW T.b_len (aw (dv 1) (dv 0))) (aW T.b_len (aI fu hr (aa (aw (dv 2) (dv 0)) ac) eJ)))))))) ah (bz _)) (af (az (i:=6) sc__law_first_come.nd rfl (.inl rfl) (aF (kM ac)))
   (af (dJ (j:=7) PassesOwn.leaving rfl sc__law_first_come.nd rfl (.inl rfl) rfl (d9 rfl T.b_range (aa (aW T.b_len (dv 2)) ac))
    (ai (bJ (aY mG (aW T.b_len (aw (dv 3) (dv 7))) (aW T.b_len (aI fu hr (aa (aw (dv 2) (dv 7)) ac))) (bz _)) (af (az (i:=8) sc__law_first_come.nd rfl (.inl rfl) (cN (PN.of (aw (aI fu hr (aa (aw (dv 2) (dv 7)) ac)) (aW T.b_len (aw (dv 3) (dv 7)))))))
   (ai (mw (j:=6) (n:=0) rfl rfl (.inl rfl) (cN (PN.of (d6 (aa (CW T.b_max (aa (aw (dv 5) (dv 7)) (aa (aw (dv 4) (dv 8)) ac))) (aa (dv 7) (aa (dv 8) ac))))))))) a_)))
   (af (az (i:=9) sc__law_first_come.nd rfl (.inl rfl) (cN (PN.of (wG hr.units T.b_min (dv 6)))))
   (af (qy (j:=3) (n:=0) rfl rfl (.inr (.inl rfl)) (aw (dv 9) ah) (aF (PN.of (aw (dv 9) ah))) Ek)
   (af (rZ (j:=5) (n:=0) rfl rfl (.inl rfl) (aw (dv 9) ah) (aF (PN.of (ar aA (aw (dv 9) ah) (aw (dv 0) (aw (dv 9) ah))))))
   (ai (rZ (j:=4) (n:=0) rfl rfl (.inl rfl) (aw (dv 9) ah) (cN (PN.of (ar aA (aw (dv 5) (aw (dv 9) ah)) (dv 1))))))))))))
   (ai (jW (i:=3) rfl rfl (.inr (.inl rfl))))))))
noncomputable abbrev gQ:Stmt:=top 15
noncomputable abbrev gA:List Str:=["line","train","last_halt","halt","ready"]
@[irreducible] noncomputable def eh (K:W.Frag)(CL:Addr):DS→Out:=(ax (i3 (f8 (ae (c1 (ab 1) bq) (kI 3) sG)) bad1 nxt)
  (ax (aT 2 (c1 (fM CL "runs" (ab 0) (dz CL)) bq))
  (ax (dP (sT (GF (ab 1) oN (oI (kI 2)))) (bR 3) (i3 (i7 (iH (kI 0) (ab 3) (ab 2) uI uI)) bad1 nxt))
  (ax (i3 (f8 (ae (ae (ab 1) (kI 0) aL) (ae (ab 1) (kI 1) aL) Bp)) bad1 nxt)
  (ax (aT 4 (ae (ab 1) (kI 2) aL))
  (i3 (i7 (iH (kI 0) (ab 4) (kI 60) uI uI)) bad1 nxt))))))
noncomputable def cb (K:W.Frag)(CL:Addr):List D→Res D:=gU 2 gA (eh K CL)
theorem sc_check_train:FnScope gA ["line","train"] (ag gQ):=⟨rfl,rfl,rfl,by decide +kernel,rfl,by decide +kernel,by decide +kernel⟩
theorem gG (T:Txt K mg CL)(S:Sta K mg "check_train" gQ ["line","train"])(c_runs:CalM P w K mg base CL "runs" 1 (dz CL)):Cal P w K mg base "check_train" 2 ["line","train"] (freshSp K 0 (cb K CL)):=by
 refine S.cal (k:=1) (r:=0) (F:=eh K CL) sc_check_train [] (by decide) rfl fun f cdv A outer s H E hr=>?_;unfold eh;exact(af (bJ (aY (la hr.units) (aW T.b_len (dv 1)) ah (bz _)) (ai cv) a_)
   (af (az (i:=2) sc_check_train.nd rfl (.inl rfl) (ay (PN.of (aW T.b_len (j_ c_runs hr (dv 0))))))
   (af (dJ (j:=3) PassesOwn.leaving rfl sc_check_train.nd rfl (.inl rfl) rfl (kU (Dc (lB (dv 1) lD (lE ah))))
    (ai (bJ (bZ (ff iZ iZ ah (dv 3) (dv 2))) (ai cv) a_)))
   (af (bJ (aY (wg hr.units) (aw (dv 1) ah) (aw (dv 1) ah) (bz _)) (ai cv) a_)
   (af (az (i:=4) sc_check_train.nd rfl (.inl rfl) (ay (PN.of (aw (dv 1) ah))))
   (ai (bJ (bZ (ff iZ iZ ah (dv 4) (t8 T.mY))) (ai cv) a_)))))))
noncomputable abbrev AT:Stmt:=top 14
noncomputable abbrev yT:List Str:=["line","train","start","end"]
@[irreducible] noncomputable def vY (K:W.Frag)(CL:Addr):DS→Out:=(ax (tB (bL (pC (ab 0) (pC (ab 1) pN)) (cb K CL)))
  (ax (aT 2 (ae (ab 1) (kI 0) aL))
  (ax (aT 3 (ae (ab 1) (kI 1) aL))
  (ax (i3 (f8 (ae (ab 2) (ab 3) wv)) (bw (bL (pC (ab 2) (pC (ab 3) pN)) qr)) nxt)
  (bw (bL (pC (ae (ab 2) (kI 1) ux) (pC (ae (ab 3) (kI 1) ux) (pC (nG (kI 1)) pN))) qu))))))
noncomputable def tU (K:W.Frag)(CL:Addr):List D→Res D:=gU 2 yT (vY K CL)
theorem sc_way:FnScope yT ["line","train"] (ag AT):=⟨rfl,rfl,rfl,by decide +kernel,rfl,by decide +kernel,by decide +kernel⟩
theorem y9 (T:Txt K mg CL)(S:Sta K mg "way" AT ["line","train"])(gG:Cal P w K mg base "check_train" 2 ["line","train"] (freshSp K 0 (cb K CL))):Cal P w K mg base "way" 3 ["line","train"] (freshSp K 0 (tU K CL)):=by
 refine S.cal (k:=2) (r:=0) (F:=vY K CL) sc_way [] (by decide) rfl fun f cdv A outer s H E hr=>?_;unfold vY;exact(af (rY (aI gG hr (aa (dv 0) (aa (dv 1) ac))))
   (af (az (i:=2) sc_way.nd rfl (.inl rfl) (ay (PN.of (aw (dv 1) ah))))
   (af (az (i:=3) sc_way.nd rfl (.inl rfl) (ay (PN.of (aw (dv 1) ah))))
   (af (bJ (aY mG (dv 2) (dv 3) (bz _)) (ai (aM (ay (PN.of (vy rfl rfl T.b_list rfl T.b_range (aa (dv 2) (aa (dv 3) ac))))))) a_)
   (ai (aM (ay (PN.of (vz rfl rfl T.b_list rfl T.b_range (aa (ar og (dv 2) ah) (aa (ar og (dv 3) ah) (aa (vA ah) ac))))))))))))
noncomputable abbrev sk:Stmt:=top 16
noncomputable abbrev qM:List Str:=["line","trains"]
@[irreducible] noncomputable def qK (K:W.Frag)(CL:Addr):DS→Out:=(ax (i3 (i7 (iH (kI 1) (c1 (ab 1) bq) (kI 5) uI uI)) bad1 nxt)
  (bw (bm (sL (ab 1)) [none,some 0] (bR 0) yes (bL (pC (ab 1) (pC (ab 0) pN)) (tU K CL)))))
noncomputable def dC (K:W.Frag)(CL:Addr):List D→Res D:=gU 2 qM (qK K CL)
theorem DA:FnScope qM ["line","trains"] (ag sk):=⟨rfl,rfl,rfl,by decide +kernel,rfl,by decide +kernel,by decide +kernel⟩
theorem iF (T:Txt K mg CL)(S:Sta K mg "ways" sk ["line","trains"])(y9:Cal P w K mg base "way" 3 ["line","train"] (freshSp K 0 (tU K CL))):Cal P w K mg base "ways" 4 ["line","trains"] (freshSp K 0 (dC K CL)):=by
 refine S.cal (k:=3) (r:=0) (F:=qK K CL) DA [] (by decide) rfl fun f cdv A outer s H E hr=>?_;unfold qK;exact(af (bJ (bZ (ff iZ iZ ah (aW T.b_len (dv 1)) (t8 T.mT))) (ai cv) a_)
   (ai (aM (ay (PN.of (PN.pd (b0 (j:=0) rfl (aR (N:=["train","line"]) (caps:=[none,some 0]) (ag sk) qM rfl rfl (by decide +kernel)) rfl rfl rfl (bv (dv 1)) (fun _ _ _ _=>bg) (fun _ _ _ _=>(PN.of (aI y9 hr (aa (dv 1) (aa (dv 0) ac)) eJ))))))))))
noncomputable abbrev iW:Stmt:=top 25
noncomputable abbrev eS:List Str:=["paths","table","stretch","entries","train","path","entered","minute"]
noncomputable abbrev cH:List Nat:=[0,0,0,1,0,0,0,0]
@[irreducible] noncomputable def da (K:W.Frag)(CL:Addr):DS→Out:=(ax (aT 3 (dQ cH (gJ pN)))
  (ax (dP (zy cH (sE (pC (ab 0) pN))) (eE 4 5) (dP (zy cH (sZ (pC (ab 5) (pC (ae (ab 1) (ab 4) aL) pN)))) (eE 6 7) (i3 (f8 (ae (ab 6) (ab 2) Bp)) (nW 3 (dQ cH (f7 (pC (ab 7) (pC (ab 4) pN))))) nxt)))
  (bw (oQ 1 (c1 (ab 3) b7)))))
noncomputable def aU (K:W.Frag)(CL:Addr):List D→Res D:=gU 3 eS (da K CL)
theorem sc_entries_on:FnScope eS ["paths","table","stretch"] (ag iW):=⟨rfl,rfl,rfl,by decide +kernel,rfl,by decide +kernel,by decide +kernel⟩
theorem bX (T:Txt K mg CL)(S:Sta K mg "entries_on" iW ["paths","table","stretch"]):Cal P w K mg base "entries_on" 1 ["paths","table","stretch"] (freshSp K 0 (aU K CL)):=by
 refine S.cal (k:=0) (r:=0) (F:=da K CL) sc_entries_on cH (by decide) rfl fun f cdv A outer s H E hr=>?_;unfold da;exact(af (az (i:=3) sc_entries_on.nd rfl (.inl rfl) (aF (kM ac)))
   (af (dI (j:=4) (k:=5) PassesOwn.leaving rfl sc_entries_on.nd rfl rfl (.inl rfl) (.inl rfl) rfl rfl (eZ (dH rfl T.b_enumerate (aa (dv 0) ac)))
    (ai (dI (j:=6) (k:=7) PassesOwn.leaving rfl sc_entries_on.nd rfl rfl (.inl rfl) (.inl rfl) rfl rfl (eZ (lF rfl T.b_zip (aa (dv 5) (aa (aw (dv 1) (dv 4)) ac))))
    (ai (bJ (aY (wg hr.units) (dv 6) (dv 2) (bz _)) (ai (mw (j:=3) (n:=0) rfl rfl (.inl rfl) (aF (PN.of (d6 (aa (dv 7) (aa (dv 4) ac))))))) a_)))))
   (ai (aM (PZ.zero (cN (AD T.b_sorted (dv 3))))))))
noncomputable abbrev fZ:Stmt:=top 21
noncomputable abbrev fk:List Str:=["paths","table"]
@[irreducible] noncomputable def ij (K:W.Frag)(CL:Addr):DS→Out:=(bw (ae (bm (sL (ab 1)) [none] (bR 0) yes (c1 (ab 0) bq)) (bm (sL (ab 0)) [none] (bR 0) yes (c1 (ab 0) bq)) Bp))
noncomputable def fI (K:W.Frag)(CL:Addr):List D→Res D:=gU 2 fk (ij K CL)
theorem ul:FnScope fk ["paths","table"] (ag fZ):=⟨rfl,rfl,rfl,by decide +kernel,rfl,by decide +kernel,by decide +kernel⟩
theorem kl (T:Txt K mg CL)(S:Sta K mg "is_whole" fZ ["paths","table"]):Cal P w K mg base "is_whole" 1 ["paths","table"] (freshSp K 0 (fI K CL)):=by
 refine S.cal (k:=0) (r:=0) (F:=ij K CL) ul [] (by decide) rfl fun f cdv A outer s H E hr=>?_;unfold ij;exact(ai (aM (ay (PN.of (Gc (wg hr.units) (PN.pd (b0 (j:=0) rfl (aR (N:=["row"]) (caps:=[none]) (ag fZ) fk rfl rfl (by decide +kernel)) rfl rfl rfl (bv (dv 1)) (fun _ _ _ _=>bg) (fun _ _ _ _=>(PN.of (aW T.b_len (dv 0)))))) (PN.pd (b0 (j:=0) rfl (aR (N:=["path"]) (caps:=[none]) (ag fZ) fk rfl rfl (by decide +kernel)) rfl rfl rfl (bv (dv 0)) (fun _ _ _ _=>bg) (fun _ _ _ _=>(PN.of (aW T.b_len (dv 0)))))) (bz _))))))
noncomputable abbrev gN:Stmt:=top 22
noncomputable abbrev gy:List Str:=["line","trains","paths","table","runs","train","path","soonest","stretch","minute"]
@[irreducible] noncomputable def d_ (K:W.Frag)(CL:Addr):DS→Out:=(ax (aT 4 (fM CL "runs" (ab 0) (dz CL)))
  (ax (dP (sE (pC (ab 2) pN)) (eE 5 6) (ax (aT 7 (ae (ae (ab 1) (ab 5) aL) (kI 2) aL))
  (dP (sZ (pC (ab 6) (pC (ae (ab 3) (ab 5) aL) pN))) (eE 8 9) (ax (i3 (f8 (ae (ab 9) (ab 7) wv)) (bw (kB false)) nxt)
  (aT 7 (ae (ab 9) (ae (ab 4) (ab 8) aL) aZ))))))
  (bw (kB true))))
noncomputable def cE (K:W.Frag)(CL:Addr):List D→Res D:=gU 4 gy (d_ K CL)
theorem sc_all_in_time:FnScope gy ["line","trains","paths","table"] (ag gN):=⟨rfl,rfl,rfl,by decide +kernel,rfl,by decide +kernel,by decide +kernel⟩
theorem gE (T:Txt K mg CL)(S:Sta K mg "all_in_time" gN ["line","trains","paths","table"])(c_runs:CalM P w K mg base CL "runs" 1 (dz CL)):Cal P w K mg base "all_in_time" 2 ["line","trains","paths","table"] (freshSp K 0 (cE K CL)):=by
 refine S.cal (k:=1) (r:=0) (F:=d_ K CL) sc_all_in_time [] (by decide) rfl fun f cdv A outer s H E hr=>?_;unfold d_;exact(af (az (i:=4) sc_all_in_time.nd rfl (.inl rfl) (ay (PN.of (j_ c_runs hr (dv 0)))))
   (af (dI (j:=5) (k:=6) PassesOwn.leaving rfl sc_all_in_time.nd rfl rfl (.inl rfl) (.inl rfl) rfl rfl (kU (dH rfl T.b_enumerate (aa (dv 2) ac)))
    (af (az (i:=7) sc_all_in_time.nd rfl (.inl rfl) (ay (PN.of (aw (aw (dv 1) (dv 5)) ah))))
   (ai (dI (j:=8) (k:=9) PassesOwn.leaving rfl sc_all_in_time.nd rfl rfl (.inl rfl) (.inl rfl) rfl rfl (kU (lF rfl T.b_zip (aa (dv 6) (aa (aw (dv 3) (dv 5)) ac))))
    (af (bJ (aY mG (dv 9) (dv 7) (bz _)) (ai (aM (ay (PN.of dU)))) a_)
   (ai (az (i:=7) sc_all_in_time.nd rfl (.inl rfl) (ay (PN.of (ar aA (dv 9) (aw (dv 4) (dv 8))))))))))))
   (ai (aM (ay (PN.of dU))))))
noncomputable abbrev jH:Stmt:=top 23
noncomputable abbrev jd:List Str:=["line","paths","table","gap","stretch","run","entries","ahead","behind"]
@[irreducible] noncomputable def f_ (K:W.Frag)(CL:Addr):DS→Out:=(ax (aT 3 (fM CL "clear" (ab 0) (fG CL)))
  (ax (dP (sE (pC (fM CL "runs" (ab 0) (dz CL)) pN)) (eE 4 5) (ax (aT 6 (bL (pC (ab 1) (pC (ab 2) (pC (ab 4) pN))) (aU K CL)))
  (dP (sZ (pC (ab 6) (pC (GF (ab 6) (oI (kI 1)) oN) pN))) (eE 7 8) (i3 (f8 (ae (ae (ab 8) (kI 0) aL) (ae (ae (ae (ab 7) (kI 0) aL) (ab 5) aZ) (ab 3) aZ) wv)) (bw (kB false)) nxt))))
  (bw (kB true))))
noncomputable def eF (K:W.Frag)(CL:Addr):List D→Res D:=gU 3 jd (f_ K CL)
theorem sc_all_apart:FnScope jd ["line","paths","table"] (ag jH):=⟨rfl,rfl,rfl,by decide +kernel,rfl,by decide +kernel,by decide +kernel⟩
theorem jg (T:Txt K mg CL)(S:Sta K mg "all_apart" jH ["line","paths","table"])(bX:Cal P w K mg base "entries_on" 1 ["paths","table","stretch"] (freshSp K 0 (aU K CL)))(c_runs:CalM P w K mg base CL "runs" 1 (dz CL))(c_clear:CalM P w K mg base CL "clear" 1 (fG CL)):Cal P w K mg base "all_apart" 2 ["line","paths","table"] (freshSp K 0 (eF K CL)):=by
 refine S.cal (k:=1) (r:=0) (F:=f_ K CL) sc_all_apart [] (by decide) rfl fun f cdv A outer s H E hr=>?_;unfold f_;exact(af (az (i:=3) sc_all_apart.nd rfl (.inl rfl) (ay (PN.of (j_ c_clear hr (dv 0)))))
   (af (dI (j:=4) (k:=5) PassesOwn.leaving rfl sc_all_apart.nd rfl rfl (.inl rfl) (.inl rfl) rfl rfl (kU (dH rfl T.b_enumerate (aa (j_ c_runs hr (dv 0)) ac)))
    (af (az (i:=6) sc_all_apart.nd rfl (.inl rfl) (ay (PN.of (aI bX hr (aa (dv 1) (aa (dv 2) (aa (dv 4) ac)))))))
   (ai (dI (j:=7) (k:=8) PassesOwn.leaving rfl sc_all_apart.nd rfl rfl (.inl rfl) (.inl rfl) rfl rfl (kU (lF rfl T.b_zip (aa (dv 6) (aa (lB (dv 6) (lE ah) lD) ac))))
    (ai (bJ (aY mG (aw (dv 8) ah) (ar aA (ar aA (aw (dv 7) ah) (dv 5)) (dv 3)) (bz _)) (ai (aM (ay (PN.of dU)))) a_))))))
   (ai (aM (ay (PN.of dU))))))
noncomputable abbrev sj:Stmt:=top 18
noncomputable abbrev qL:List Str:=["line","trains","table","paths"]
@[irreducible] noncomputable def nh (K:W.Frag)(CL:Addr):DS→Out:=(ax (aT 3 (bL (pC (ab 0) (pC (ab 1) pN)) (dC K CL)))
  (ax (i3 (i7 (f8 (bL (pC (ab 3) (pC (ab 2) pN)) (fI K CL)))) (bw (kB false)) nxt)
  (bw (Bz (bL (pC (ab 0) (pC (ab 1) (pC (ab 3) (pC (ab 2) pN)))) (cE K CL)) (bL (pC (ab 0) (pC (ab 3) (pC (ab 2) pN))) (eF K CL))))))
noncomputable def gq (K:W.Frag)(CL:Addr):List D→Res D:=gU 3 qL (nh K CL)
theorem sc_keeps:FnScope qL ["line","trains","table"] (ag sj):=⟨rfl,rfl,rfl,by decide +kernel,rfl,by decide +kernel,by decide +kernel⟩
theorem k7 (T:Txt K mg CL)(S:Sta K mg "keeps" sj ["line","trains","table"])(jg:Cal P w K mg base "all_apart" 2 ["line","paths","table"] (freshSp K 0 (eF K CL)))(gE:Cal P w K mg base "all_in_time" 2 ["line","trains","paths","table"] (freshSp K 0 (cE K CL)))(kl:Cal P w K mg base "is_whole" 1 ["paths","table"] (freshSp K 0 (fI K CL)))(iF:Cal P w K mg base "ways" 4 ["line","trains"] (freshSp K 0 (dC K CL))):Cal P w K mg base "keeps" 5 ["line","trains","table"] (freshSp K 0 (gq K CL)):=by
 refine S.cal (k:=4) (r:=0) (F:=nh K CL) sc_keeps [] (by decide) rfl fun f cdv A outer s H E hr=>?_;unfold nh;exact(af (az (i:=3) sc_keeps.nd rfl (.inl rfl) (ay (PN.of (aI iF hr (aa (dv 0) (aa (dv 1) ac))))))
   (af (bJ (bZ (iP (aI kl hr (aa (dv 3) (aa (dv 2) ac))))) (ai (aM (ay (PN.of dU)))) a_)
   (ai (aM (ay (PN.of (Ah (aI gE hr (aa (dv 0) (aa (dv 1) (aa (dv 3) (aa (dv 2) ac))))) (Al (aI jg hr (aa (dv 0) (aa (dv 3) (aa (dv 2) ac))))))))))))
noncomputable abbrev gP:Stmt:=top 20
noncomputable abbrev gz:List Str:=["line","trains","table"]
@[irreducible] noncomputable def ee (K:W.Frag)(CL:Addr):DS→Out:=(i3 (i7 (f8 (bL (pC (ab 0) (pC (ab 1) (pC (ab 2) pN))) (gq K CL)))) bad1 nxt)
noncomputable def cF (K:W.Frag)(CL:Addr):List D→Res D:=gU 3 gz (ee K CL)
theorem pi:FnScope gz ["line","trains","table"] (ag gP):=⟨rfl,rfl,rfl,by decide +kernel,rfl,by decide +kernel,by decide +kernel⟩
theorem gF (T:Txt K mg CL)(S:Sta K mg "check_table" gP ["line","trains","table"])(k7:Cal P w K mg base "keeps" 5 ["line","trains","table"] (freshSp K 0 (gq K CL))):Cal P w K mg base "check_table" 6 ["line","trains","table"] (freshSp K 0 (cF K CL)):=by
 refine S.cal (k:=5) (r:=0) (F:=ee K CL) pi [] (by decide) rfl fun f cdv A outer s H E hr=>?_;unfold ee;exact(ai (bJ (bZ (iP (aI k7 hr (aa (dv 0) (aa (dv 1) (aa (dv 2) ac)))))) (ai cv) a_))
noncomputable abbrev iX:Stmt:=top 24
noncomputable abbrev iw:List Str:=["paths","table","stretch"]
@[irreducible] noncomputable def ik (K:W.Frag)(CL:Addr):DS→Out:=(bw (bm (sL (bL (pC (ab 0) (pC (ab 1) (pC (ab 2) pN))) (aU K CL))) [none] (bR 0) yes (ae (ab 0) (kI 1) aL)))
noncomputable def fJ (K:W.Frag)(CL:Addr):List D→Res D:=gU 3 iw (ik K CL)
theorem um:FnScope iw ["paths","table","stretch"] (ag iX):=⟨rfl,rfl,rfl,by decide +kernel,rfl,by decide +kernel,by decide +kernel⟩
theorem km (T:Txt K mg CL)(S:Sta K mg "order_on" iX ["paths","table","stretch"])(bX:Cal P w K mg base "entries_on" 1 ["paths","table","stretch"] (freshSp K 0 (aU K CL))):Cal P w K mg base "order_on" 2 ["paths","table","stretch"] (freshSp K 1 (fJ K CL)):=by
 refine S.cal (k:=1) (r:=1) (F:=ik K CL) um [] (by decide) rfl fun f cdv A outer s H E hr=>?_;unfold ik;exact(ai (aM (ay (b0 (j:=0) rfl (aR (N:=["entry"]) (caps:=[none]) (ag iX) iw rfl rfl (by decide +kernel)) rfl rfl rfl (bv (aI bX hr (aa (dv 0) (aa (dv 1) (aa (dv 2) ac))))) (fun _ _ _ _=>bg) (fun _ _ _ _=>(PN.of (aw (dv 0) ah)))))))
noncomputable abbrev gs:Stmt:=top 19
noncomputable abbrev gc:List Str:=["line","trains","table","paths"]
@[irreducible] noncomputable def gb (K:W.Frag)(CL:Addr):DS→Out:=(ax (tB (bL (pC (ab 0) (pC (ab 1) (pC (ab 2) pN))) (cF K CL)))
  (ax (aT 3 (bL (pC (ab 0) (pC (ab 1) pN)) (dC K CL)))
  (bw (bm (sR1 (pC (c1 (fM CL "runs" (ab 0) (dz CL)) bq) pN)) [none,some 3,some 2] (bR 0) yes (bL (pC (ab 1) (pC (ab 2) (pC (ab 0) pN))) (fJ K CL))))))
noncomputable def eG (K:W.Frag)(CL:Addr):List D→Res D:=gU 3 gc (gb K CL)
theorem sc_orders_of:FnScope gc ["line","trains","table"] (ag gs):=⟨rfl,rfl,rfl,by decide +kernel,rfl,by decide +kernel,by decide +kernel⟩
theorem jh (T:Txt K mg CL)(S:Sta K mg "orders_of" gs ["line","trains","table"])(gF:Cal P w K mg base "check_table" 6 ["line","trains","table"] (freshSp K 0 (cF K CL)))(km:Cal P w K mg base "order_on" 2 ["paths","table","stretch"] (freshSp K 1 (fJ K CL)))(iF:Cal P w K mg base "ways" 4 ["line","trains"] (freshSp K 0 (dC K CL)))(c_runs:CalM P w K mg base CL "runs" 1 (dz CL)):Cal P w K mg base "orders_of" 7 ["line","trains","table"] (freshSp K 2 (eG K CL)):=by
 refine S.cal (k:=6) (r:=2) (F:=gb K CL) sc_orders_of [] (by decide) rfl fun f cdv A outer s H E hr=>?_;unfold gb;exact(af (rY (aI gF hr (aa (dv 0) (aa (dv 1) (aa (dv 2) ac)))))
   (af (az (i:=3) sc_orders_of.nd rfl (.inr rfl) (ay (PN.of (aI iF hr (aa (dv 0) (aa (dv 1) ac))))))
   (ai (aM (ay (b0 (j:=0) rfl (aR (N:=["stretch","paths","table"]) (caps:=[none,some 3,some 2]) (ag gs) gc rfl rfl (by decide +kernel)) rfl rfl rfl (kL rfl T.b_range (aa (aW T.b_len (j_ c_runs hr (dv 0))) ac)) (fun _ _ _ _=>bg) (fun _ _ _ _=>(jE (n:=1) km hr (aa (dv 1) (aa (dv 2) (aa (dv 0) ac))) eJ))))))))
noncomputable abbrev f6:Stmt:=top 30
noncomputable abbrev fm:List Str:=["line","trains","paths","plan","train","row"]
@[irreducible] noncomputable def de (K:W.Frag)(CL:Addr):DS→Out:=(ax (aT 5 (ae (ab 3) (ab 4) aL))
  (ax (i3 (i7 (tR (ab 5))) (bw (ae (ae (ab 1) (ab 4) aL) (kI 2) aL)) nxt)
  (bw (ae (ae (ab 5) (nG (kI 1)) aL) (ae (fM CL "runs" (ab 0) (dz CL)) (ae (ae (ab 2) (ab 4) aL) (ae (c1 (ab 5) bq) (kI 1) ux) aL) aL) aZ))))
noncomputable def cu (K:W.Frag)(CL:Addr):List D→Res D:=gU 5 fm (de K CL)
theorem sc_minute_there:FnScope fm ["line","trains","paths","plan","train"] (ag f6):=⟨rfl,rfl,rfl,by decide +kernel,rfl,by decide +kernel,by decide +kernel⟩
theorem fx (T:Txt K mg CL)(S:Sta K mg "minute_there" f6 ["line","trains","paths","plan","train"])(c_runs:CalM P w K mg base CL "runs" 1 (dz CL)):Cal P w K mg base "minute_there" 2 ["line","trains","paths","plan","train"] (freshSp K 0 (cu K CL)):=by
 refine S.cal (k:=1) (r:=0) (F:=de K CL) sc_minute_there [] (by decide) rfl fun f cdv A outer s H E hr=>?_;unfold de;exact(af (az (i:=5) sc_minute_there.nd rfl (.inl rfl) (ay (PN.of (aw (dv 3) (dv 4)))))
   (af (bJ (bZ (nI (dv 5))) (ai (aM (ay (PN.of (aw (aw (dv 1) (dv 4)) ah))))) a_)
   (ai (aM (ay (PN.of (ar aA (aw (dv 5) (vA ah)) (aw (j_ c_runs hr (dv 0)) (aw (aw (dv 2) (dv 4)) (ar og (aW T.b_len (dv 5)) ah))))))))))
noncomputable abbrev cO:Stmt:=top 29
noncomputable abbrev cK:List Str:=["line","trains","paths","plan","train","stretch","apart","minutes"]
@[irreducible] noncomputable def cJ (K:W.Frag)(CL:Addr):DS→Out:=(ax (aT 5 (ae (ae (ab 2) (ab 4) aL) (c1 (ae (ab 3) (ab 4) aL) bq) aL))
  (ax (aT 6 (ae (ae (fM CL "runs" (ab 0) (dz CL)) (ab 5) aL) (fM CL "clear" (ab 0) (fG CL)) aZ))
  (ax (aT 7 (bm (sL (bL (pC (ab 2) (pC (ab 3) (pC (ab 5) pN))) (aU K CL))) [none,some 6] (bR 0) yes (ae (ae (ab 0) (kI 0) aL) (ab 1) aZ)))
  (bw (c1 (ae (gJ (pC (bL (pC (ab 0) (pC (ab 1) (pC (ab 2) (pC (ab 3) (pC (ab 4) pN))))) (cu K CL)) pN)) (ab 7) aZ) pS)))))
noncomputable def b_ (K:W.Frag)(CL:Addr):List D→Res D:=gU 5 cK (cJ K CL)
theorem sc_soonest_enter:FnScope cK ["line","trains","paths","plan","train"] (ag cO):=⟨rfl,rfl,rfl,by decide +kernel,rfl,by decide +kernel,by decide +kernel⟩
theorem eM (T:Txt K mg CL)(S:Sta K mg "soonest_enter" cO ["line","trains","paths","plan","train"])(bX:Cal P w K mg base "entries_on" 1 ["paths","table","stretch"] (freshSp K 0 (aU K CL)))(fx:Cal P w K mg base "minute_there" 2 ["line","trains","paths","plan","train"] (freshSp K 0 (cu K CL)))(c_runs:CalM P w K mg base CL "runs" 1 (dz CL))(c_clear:CalM P w K mg base CL "clear" 1 (fG CL)):Cal P w K mg base "soonest_enter" 3 ["line","trains","paths","plan","train"] (freshSp K 0 (b_ K CL)):=by
 refine S.cal (k:=2) (r:=0) (F:=cJ K CL) sc_soonest_enter [] (by decide) rfl fun f cdv A outer s H E hr=>?_;unfold cJ;exact(af (az (i:=5) sc_soonest_enter.nd rfl (.inl rfl) (ay (PN.of (aw (aw (dv 2) (dv 4)) (aW T.b_len (aw (dv 3) (dv 4)))))))
   (af (az (i:=6) sc_soonest_enter.nd rfl (.inr rfl) (ay (PN.of (ar aA (aw (j_ c_runs hr (dv 0)) (dv 5)) (j_ c_clear hr (dv 0))))))
   (af (wQ (jF sc_soonest_enter.nd (i:=7) rfl rfl rfl (aR (N:=["entry","apart"]) (caps:=[none,some 6]) (ag cO) cK rfl rfl (by decide +kernel)) (j:=0) rfl rfl rfl (bv (aI bX hr (aa (dv 2) (aa (dv 3) (aa (dv 5) ac))))) (fun _ _ _ _=>bg) (fun _ _ _ _=>(PN.of (ar aA (aw (dv 0) ah) (dv 1))))) rfl)
   (ai (aM (ay (PN.of (wF T.b_max (ar aA (oZ (aa (aI fx hr (aa (dv 0) (aa (dv 1) (aa (dv 2) (aa (dv 3) (aa (dv 4) ac)))))) ac)) (dv 7))))))))))
noncomputable abbrev cw:Stmt:=top 28
noncomputable abbrev ck:List Str:=["line","trains","paths","plan","going"]
@[irreducible] noncomputable def df (K:W.Frag)(CL:Addr):DS→Out:=(ax (aT 4 (bm (sE (pC (ab 2) pN)) [none,none,some 3] (eE 0 1) (f8 (ae (c1 (ae (ab 2) (ab 0) aL) bq) (c1 (ab 1) bq) wv)) (ab 0)))
  (bw (bm (sL (ab 4)) [none,some 0,some 1,some 2,some 3] (bR 0) yes (f7 (pC (bL (pC (ab 1) (pC (ab 2) (pC (ab 3) (pC (ab 4) (pC (ab 0) pN))))) (b_ K CL)) (pC (ab 0) pN))))))
noncomputable def bT (K:W.Frag)(CL:Addr):List D→Res D:=gU 4 ck (df K CL)
theorem sc_next_entries:FnScope ck ["line","trains","paths","plan"] (ag cw):=⟨rfl,rfl,rfl,by decide +kernel,rfl,by decide +kernel,by decide +kernel⟩
theorem dm (T:Txt K mg CL)(S:Sta K mg "next_entries" cw ["line","trains","paths","plan"])(eM:Cal P w K mg base "soonest_enter" 3 ["line","trains","paths","plan","train"] (freshSp K 0 (b_ K CL))):Cal P w K mg base "next_entries" 4 ["line","trains","paths","plan"] (freshSp K 1 (bT K CL)):=by
 refine S.cal (k:=3) (r:=1) (F:=df K CL) sc_next_entries [] (by decide) rfl fun f cdv A outer s H E hr=>?_;unfold df;exact(af (wQ (uc sc_next_entries.nd (i:=4) rfl rfl rfl (aR (N:=["train","path","plan"]) (caps:=[none,none,some 3]) (ag cw) ck rfl rfl (by decide +kernel)) (j:=0) (l:=1) rfl rfl rfl rfl rfl rfl (dH rfl T.b_enumerate (aa (dv 2) ac)) (fun _ _ _ _=>lC (aY mG (aW T.b_len (aw (dv 2) (dv 0))) (aW T.b_len (dv 1)) (bz _))) (fun _ _ _ _=>(PN.of (dv 0)))) rfl)
   (ai (aM (ay (b0 (j:=0) rfl (aR (N:=["train","line","trains","paths","plan"]) (caps:=[none,some 0,some 1,some 2,some 3]) (ag cw) ck rfl rfl (by decide +kernel)) rfl rfl rfl (bv (dv 4)) (fun _ _ _ _=>bg) (fun _ _ _ _=>(PN.of (d6 (aa (aI eM hr (aa (dv 1) (aa (dv 2) (aa (dv 3) (aa (dv 4) (aa (dv 0) ac))))) eJ) (aa (dv 0) ac))))))))))
noncomputable abbrev eY:Stmt:=top 27
noncomputable abbrev eT:List Str:=["line","trains","paths","plan","entries","first"]
noncomputable abbrev cI:List Nat:=[0,0,0,2,0,0]
@[irreducible] noncomputable def eR (K:W.Frag)(CL:Addr):DS→Out:=(ax (aT 2 (dQ cI (bL (pC (ab 0) (pC (ab 1) pN)) (dC K CL))))
  (ax (aT 3 (dQ cI (bm (sL (ab 2)) [none] (bR 0) yes (gJ pN))))
  (ax (aT 4 (oQ 1 (bL (pC (ab 0) (pC (ab 1) (pC (ab 2) (pC (ab 3) pN)))) (bT K CL))))
  (ax (cy (tR (ab 4)) (ax (aT 5 (dQ cI (c1 (ab 4) hV)))
  (ax (sf 3 (ae (ab 5) (kI 1) aL) (dQ cI (ae (ab 5) (kI 0) aL)))
  (aT 4 (oQ 1 (bL (pC (ab 0) (pC (ab 1) (pC (ab 2) (pC (ab 3) pN)))) (bT K CL)))))) 60)
  (bw (ab 3))))))
noncomputable def dB (K:W.Frag)(CL:Addr):List D→Res D:=gU 2 eT (eR K CL)
theorem sc_first_come:FnScope eT ["line","trains"] (ag eY):=⟨rfl,rfl,rfl,by decide +kernel,rfl,by decide +kernel,by decide +kernel⟩
theorem iE (T:Txt K mg CL)(S:Sta K mg "first_come" eY ["line","trains"])(dm:Cal P w K mg base "next_entries" 4 ["line","trains","paths","plan"] (freshSp K 1 (bT K CL)))(iF:Cal P w K mg base "ways" 4 ["line","trains"] (freshSp K 0 (dC K CL))):Cal P w K mg base "first_come" 5 ["line","trains"] (freshSp K 2 (dB K CL)):=by
 refine S.cal (k:=4) (r:=2) (F:=eR K CL) sc_first_come cI (by decide) rfl fun f cdv A outer s H E hr=>?_;unfold eR;exact(af (az (i:=2) sc_first_come.nd rfl (.inl rfl) (aF (PN.of (aI iF hr (aa (dv 0) (aa (dv 1) ac))))))
   (af (vF (jF sc_first_come.nd (i:=3) rfl rfl rfl (aR (N:=["path"]) (caps:=[none]) (ag eY) eT rfl rfl (by decide +kernel)) (j:=0) rfl rfl rfl (bv (dv 2)) (fun _ _ _ _=>bg) (fun _ _ _ _=>(kM ac))) rfl rfl)
   (af (az (i:=4) sc_first_come.nd rfl (.inl rfl) (PZ.zero (cN (jE (n:=1) dm hr (aa (dv 0) (aa (dv 1) (aa (dv 2) (aa (dv 3) ac))))))))
   (af (pb 60 PassesOwn.leaving (nI (dv 4)) (af (az (i:=5) sc_first_come.nd rfl (.inl rfl) (aF (PN.of (wG hr.units T.b_min (dv 4)))))
   (af (qy (j:=3) (n:=0) rfl rfl (.inl rfl) (aw (dv 5) ah) (aF (PN.of (aw (dv 5) ah))) Ek)
   (ai (az (i:=4) sc_first_come.nd rfl (.inl rfl) (PZ.zero (cN (jE (n:=1) dm hr (aa (dv 0) (aa (dv 1) (aa (dv 2) (aa (dv 3) ac))))))))))))
   (ai (jW (i:=3) rfl rfl (.inl rfl)))))))
noncomputable abbrev dM:Stmt:=top 33
noncomputable abbrev dh:List Str:=["stretches","paths","orders","stretch","order","going"]
@[irreducible] noncomputable def c_ (K:W.Frag)(CL:Addr):DS→Out:=(ax (i3 (f8 (ae (c1 (ab 2) bq) (ab 0) sG)) bad1 nxt)
  (dP (sE (pC (ab 2) pN)) (eE 3 4) (ax (aT 5 (bm (sE (pC (ab 1) pN)) [none,none,some 3] (eE 0 1) (f8 (ae (ab 2) (ab 1) (uH false))) (ab 0)))
  (i3 (f8 (ae (c1 (ab 4) mz) (ab 5) sG)) bad1 nxt))))
noncomputable def bS (K:W.Frag)(CL:Addr):List D→Res D:=gU 3 dh (c_ K CL)
theorem sc_check_orders:FnScope dh ["stretches","paths","orders"] (ag dM):=⟨rfl,rfl,rfl,by decide +kernel,rfl,by decide +kernel,by decide +kernel⟩
theorem fv (T:Txt K mg CL)(S:Sta K mg "check_orders" dM ["stretches","paths","orders"]):Cal P w K mg base "check_orders" 1 ["stretches","paths","orders"] (freshSp K 0 (bS K CL)):=by
 refine S.cal (k:=0) (r:=0) (F:=c_ K CL) sc_check_orders [] (by decide) rfl fun f cdv A outer s H E hr=>?_;unfold c_;exact(af (bJ (aY (la hr.units) (aW T.b_len (dv 2)) (dv 0) (bz _)) (ai cv) a_)
   (ai (dI (j:=3) (k:=4) PassesOwn.leaving rfl sc_check_orders.nd rfl rfl (.inr rfl) (.inl rfl) rfl rfl (kU (dH rfl T.b_enumerate (aa (dv 2) ac)))
    (af (wQ (uc sc_check_orders.nd (i:=5) rfl rfl rfl (aR (N:=["train","path","stretch"]) (caps:=[none,none,some 3]) (ag dM) dh rfl rfl (by decide +kernel)) (j:=0) (l:=1) rfl rfl rfl rfl rfl rfl (dH rfl T.b_enumerate (aa (dv 1) ac)) (fun _ _ _ _=>lC (aY (Hj hr.units) (dv 2) (dv 1) (by rfl))) (fun _ _ _ _=>(PN.of (dv 0)))) rfl)
   (ai (bJ (aY (la hr.units) (AC T.b_sorted (dv 4)) (dv 5) (bz _)) (ai cv) a_))))))
noncomputable abbrev kQ:Stmt:=top 32
noncomputable abbrev kh:List Str:=["line","paths","orders","runs","gap","waits","train","path","stretch","ahead","behind","order"]
noncomputable abbrev bn:List Nat:=[0,0,0,0,0,2,0,0,0,0,0,0]
@[irreducible] noncomputable def im (K:W.Frag)(CL:Addr):DS→Out:=(ax (aT 3 (dQ bn (fM CL "runs" (ab 0) (dz CL))))
  (ax (aT 4 (dQ bn (fM CL "clear" (ab 0) (fG CL))))
  (ax (tB (bL (pC (c1 (ab 3) bq) (pC (ab 1) (pC (ab 2) pN))) (bS K CL)))
  (ax (aT 5 (dQ bn (fun _=>Res.ok (.dct [] []))))
  (ax (dP (zy bn (sE (pC (ab 1) pN))) (eE 6 7) (ax (dP (zy bn (sL (ab 7))) (bR 8) (lb 5 (f7 (pC (ab 6) (pC (ab 8) pN))) (dQ bn (gJ pN))))
  (dP (zy bn (sZ (pC (ab 7) (pC (GF (ab 7) (oI (kI 1)) oN) pN)))) (eE 9 10) (qQ 5 1 (BB 5 0 (sF 5) (f7 (pC (ab 6) (pC (ab 10) pN)))) (dQ bn (f7 (pC (f7 (pC (ab 6) (pC (ab 9) pN))) (pC (ae (ab 3) (ab 9) aL) pN))))))))
  (ax (dP (zy bn (sE (pC (ab 2) pN))) (eE 8 11) (dP (zy bn (sZ (pC (ab 11) (pC (GF (ab 11) (oI (kI 1)) oN) pN)))) (eE 9 10) (qQ 5 1 (BB 5 0 (sF 5) (f7 (pC (ab 10) (pC (ab 8) pN)))) (dQ bn (f7 (pC (f7 (pC (ab 9) (pC (ab 8) pN))) (pC (ae (ae (ab 3) (ab 8) aL) (ab 4) aZ) pN)))))))
  (bw (ab 5))))))))
noncomputable def fL (K:W.Frag)(CL:Addr):List D→Res D:=gU 3 kh (im K CL)
theorem sc_waits_of:FnScope kh ["line","paths","orders"] (ag kQ):=⟨rfl,rfl,rfl,by decide +kernel,rfl,by decide +kernel,by decide +kernel⟩
theorem kr (T:Txt K mg CL)(S:Sta K mg "waits_of" kQ ["line","paths","orders"])(fv:Cal P w K mg base "check_orders" 1 ["stretches","paths","orders"] (freshSp K 0 (bS K CL)))(c_runs:CalM P w K mg base CL "runs" 1 (dz CL))(c_clear:CalM P w K mg base CL "clear" 1 (fG CL)):Cal P w K mg base "waits_of" 2 ["line","paths","orders"] (freshSp K 2 (fL K CL)):=by
 refine S.cal (k:=1) (r:=2) (F:=im K CL) sc_waits_of bn (by decide) rfl fun f cdv A outer s H E hr=>?_;unfold im;exact(af (az (i:=3) sc_waits_of.nd rfl (.inl rfl) (aF (PN.of (j_ c_runs hr (dv 0)))))
   (af (az (i:=4) sc_waits_of.nd rfl (.inl rfl) (aF (PN.of (j_ c_clear hr (dv 0)))))
   (af (rY (aI fv hr (aa (aW T.b_len (dv 3)) (aa (dv 1) (aa (dv 2) ac)))))
   (af (az (i:=5) sc_waits_of.nd rfl (.inl rfl) (aF wR))
   (af (dI (j:=6) (k:=7) PassesOwn.leaving rfl sc_waits_of.nd rfl rfl (.inl rfl) (.inl rfl) rfl rfl (eZ (dH rfl T.b_enumerate (aa (dv 1) ac)))
    (af (dJ (j:=8) PassesOwn.leaving rfl sc_waits_of.nd rfl (.inl rfl) rfl (eZ (bv (dv 7)))
    (ai (wM (j:=5) (n:=1) hr.units rfl rfl (.inl rfl) (d6 (aa (dv 6) (aa (dv 8) ac))) (aF (kM ac)))))
   (ai (dI (j:=9) (k:=10) PassesOwn.leaving rfl sc_waits_of.nd rfl rfl (.inl rfl) (.inl rfl) rfl rfl (eZ (lF rfl T.b_zip (aa (dv 7) (aa (lB (dv 7) (lE ah) lD) ac))))
    (ai (wL (n:=1) (m:=0) rfl (DW (n:=0) (m:=1) hr.units rfl (nY (j:=5) rfl (.inl rfl)) (d6 (aa (dv 6) (aa (dv 10) ac)))) (aF (PN.of (d6 (aa (d6 (aa (dv 6) (aa (dv 9) ac))) (aa (aw (dv 3) (dv 9)) ac))))) (Ac (rQ (mO (rQ (mO gL (mO gL wz))) (mO (Ad gL gL va) wz))))))))))
   (af (dI (j:=8) (k:=11) PassesOwn.leaving rfl sc_waits_of.nd rfl rfl (.inl rfl) (.inl rfl) rfl rfl (eZ (dH rfl T.b_enumerate (aa (dv 2) ac)))
    (ai (dI (j:=9) (k:=10) PassesOwn.leaving rfl sc_waits_of.nd rfl rfl (.inl rfl) (.inl rfl) rfl rfl (eZ (lF rfl T.b_zip (aa (dv 11) (aa (lB (dv 11) (lE ah) lD) ac))))
    (ai (wL (n:=1) (m:=0) rfl (DW (n:=0) (m:=1) hr.units rfl (nY (j:=5) rfl (.inl rfl)) (d6 (aa (dv 10) (aa (dv 8) ac)))) (aF (PN.of (d6 (aa (d6 (aa (dv 9) (aa (dv 8) ac))) (aa (ar aA (aw (dv 3) (dv 8)) (dv 4)) ac))))) (Ac (rQ (mO (rQ (mO gL (mO gL wz))) (mO (Ad (Ad gL gL va) gL Bv) wz)))))))))
   (ai (jW (i:=5) rfl rfl (.inl rfl)))))))))
noncomputable abbrev jY:Stmt:=top 36
noncomputable abbrev jO:List Str:=["waits","turn","visit"]
@[irreducible] noncomputable def jM (K:W.Frag)(CL:Addr):DS→Out:=(bw (bm (sL (ae (ab 0) (ab 2) cB)) [none,some 1] (bR 0) (f8 (ae (ae (ab 0) (kI 0) aL) (ab 1) (uH true))) (ae (ab 0) (kI 0) aL)))
noncomputable def e_ (K:W.Frag)(CL:Addr):List D→Res D:=gU 3 jO (jM K CL)
theorem vK:FnScope jO ["waits","turn","visit"] (ag jY):=⟨rfl,rfl,rfl,by decide +kernel,rfl,by decide +kernel,by decide +kernel⟩
theorem lS (T:Txt K mg CL)(S:Sta K mg "held_by" jY ["waits","turn","visit"]):Cal P w K mg base "held_by" 1 ["waits","turn","visit"] (freshSp K 1 (e_ K CL)):=by
 refine S.cal (k:=0) (r:=1) (F:=jM K CL) vK [] (by decide) rfl fun f cdv A outer s H E hr=>?_;unfold jM;exact(ai (aM (ay (b0 (j:=0) rfl (aR (N:=["wait","turn"]) (caps:=[none,some 1]) (ag jY) jO rfl rfl (by decide +kernel)) rfl rfl rfl (bv (nF hr.units (dv 0) (dv 2))) (fun _ _ _ _=>lC (aY (sY hr.units) (aw (dv 0) ah) (dv 1) (by rfl))) (fun _ _ _ _=>(PN.of (aw (dv 0) ah)))))))
noncomputable abbrev nN:Stmt:=top 35
noncomputable abbrev ni:List Str:=["waits","turn"]
@[irreducible] noncomputable def ng (K:W.Frag)(CL:Addr):DS→Out:=(bw (bm (sD (ab 0)) [none,some 1,some 0] (bR 0) (By (f8 (ae (ab 0) (ab 1) (uH true))) (i7 (tR (bL (pC (ab 2) (pC (ab 1) (pC (ab 0) pN))) (e_ K CL))))) (ab 0)))
noncomputable def gn (K:W.Frag)(CL:Addr):List D→Res D:=gU 2 ni (ng K CL)
theorem AV:FnScope ni ["waits","turn"] (ag nN):=⟨rfl,rfl,rfl,by decide +kernel,rfl,by decide +kernel,by decide +kernel⟩
theorem no (T:Txt K mg CL)(S:Sta K mg "freed" nN ["waits","turn"])(lS:Cal P w K mg base "held_by" 1 ["waits","turn","visit"] (freshSp K 1 (e_ K CL))):Cal P w K mg base "freed" 2 ["waits","turn"] (freshSp K 1 (gn K CL)):=by
 refine S.cal (k:=1) (r:=1) (F:=ng K CL) AV [] (by decide) rfl fun f cdv A outer s H E hr=>?_;unfold ng;exact(ai (aM (ay (b0 (j:=0) rfl (aR (N:=["visit","turn","waits"]) (caps:=[none,some 1,some 0]) (ag nN) ni rfl rfl (by decide +kernel)) rfl rfl rfl (Ay (dv 0)) (fun _ _ _ _=>lC (PDW.pt (CZ (aY (sY hr.units) (dv 0) (dv 1) (by rfl)) (Aq (bZ (nI (aI lS hr (aa (dv 2) (aa (dv 1) (aa (dv 0) ac))) eJ))))))) (fun _ _ _ _=>(PN.of (dv 0)))))))
noncomputable abbrev mx:Stmt:=top 34
noncomputable abbrev lR:List Str:=["waits","turn","free"]
noncomputable abbrev fN:List Nat:=[0,1,0]
@[irreducible] noncomputable def jN (K:W.Frag)(CL:Addr):DS→Out:=(ax (aT 1 (dQ fN (gJ pN)))
  (ax (aT 2 (oQ 1 (bL (pC (ab 0) (pC (ab 1) pN)) (gn K CL))))
  (ax (cy (tR (ab 2)) (ax (rh 1 0 (sF 1) (dQ fN (ab 2)))
  (aT 2 (oQ 1 (bL (pC (ab 0) (pC (ab 1) pN)) (gn K CL))))) 40)
  (bw (ab 1)))))
noncomputable def hG (K:W.Frag)(CL:Addr):List D→Res D:=gU 1 lR (jN K CL)
theorem sc_in_turn:FnScope lR ["waits"] (ag mx):=⟨rfl,rfl,rfl,by decide +kernel,rfl,by decide +kernel,by decide +kernel⟩
theorem lT (T:Txt K mg CL)(S:Sta K mg "in_turn" mx ["waits"])(no:Cal P w K mg base "freed" 2 ["waits","turn"] (freshSp K 1 (gn K CL))):Cal P w K mg base "in_turn" 3 ["waits"] (freshSp K 1 (hG K CL)):=by
 refine S.cal (k:=2) (r:=1) (F:=jN K CL) sc_in_turn fN (by decide) rfl fun f cdv A outer s H E hr=>?_;unfold jN;exact(af (az (i:=1) sc_in_turn.nd rfl (.inl rfl) (aF (kM ac)))
   (af (az (i:=2) sc_in_turn.nd rfl (.inl rfl) (PZ.zero (cN (jE (n:=1) no hr (aa (dv 0) (aa (dv 1) ac))))))
   (af (pb 40 PassesOwn.leaving (nI (dv 2)) (af (Dh (n:=0) rfl (nY (j:=1) rfl (.inl rfl)) (aF (PN.of (dv 2))) (Ac gL))
   (ai (az (i:=2) sc_in_turn.nd rfl (.inl rfl) (PZ.zero (cN (jE (n:=1) no hr (aa (dv 0) (aa (dv 1) ac)))))))))
   (ai (jW (i:=1) rfl rfl (.inl rfl))))))
noncomputable abbrev dN:Stmt:=top 40
noncomputable abbrev dk:List Str:=["trains","waits","turn","enters","visit","ready"]
noncomputable abbrev cM:List Nat:=[0,0,0,1,0,0]
@[irreducible] noncomputable def dc (K:W.Frag)(CL:Addr):DS→Out:=(ax (aT 3 (dQ cM (fun _=>Res.ok (.dct [] []))))
  (ax (dP (zy cM (sL (ab 2))) (bR 4) (ax (aT 5 (dQ cM (ae (ae (ab 0) (ae (ab 4) (kI 0) aL) aL) (kI 2) aL)))
  (lb 3 (ab 4) (oQ 0 (c1 (ae (gJ (pC (ab 5) pN)) (bm (sL (ae (ab 1) (ab 4) cB)) [none,some 3] (bR 0) yes (ae (ae (ab 1) (ae (ab 0) (kI 0) aL) cB) (ae (ab 0) (kI 1) aL) aZ)) aZ) pS)))))
  (bw (ab 3))))
noncomputable def cr (K:W.Frag)(CL:Addr):List D→Res D:=gU 3 dk (dc K CL)
theorem sc_least_enters:FnScope dk ["trains","waits","turn"] (ag dN):=⟨rfl,rfl,rfl,by decide +kernel,rfl,by decide +kernel,by decide +kernel⟩
theorem fw (T:Txt K mg CL)(S:Sta K mg "least_enters" dN ["trains","waits","turn"]):Cal P w K mg base "least_enters" 1 ["trains","waits","turn"] (freshSp K 1 (cr K CL)):=by
 refine S.cal (k:=0) (r:=1) (F:=dc K CL) sc_least_enters cM (by decide) rfl fun f cdv A outer s H E hr=>?_;unfold dc;exact(af (az (i:=3) sc_least_enters.nd rfl (.inr rfl) (aF wR))
   (af (dJ (j:=4) PassesOwn.leaving rfl sc_least_enters.nd rfl (.inl rfl) rfl (eZ (bv (dv 2)))
    (af (az (i:=5) sc_least_enters.nd rfl (.inl rfl) (aF (PN.of (aw (aw (dv 0) (aw (dv 4) ah)) ah))))
   (ai (wM (j:=3) (n:=0) hr.units rfl rfl (.inr (.inl rfl)) (dv 4) (cN (PN.of (wF T.b_max (ar aA (oZ (aa (dv 5) ac)) (PN.pd (b0 (j:=0) rfl (aR (N:=["wait","enters"]) (caps:=[none,some 3]) (ag dN) dk rfl rfl (by decide +kernel)) rfl rfl rfl (bv (nF hr.units (dv 1) (dv 4))) (fun _ _ _ _=>bg) (fun _ _ _ _=>(PN.of (ar aA (nF hr.units (dv 1) (aw (dv 0) ah)) (aw (dv 0) ah))))))))))))))
   (ai (jW (i:=3) rfl rfl (.inr (.inl rfl))))))
noncomputable abbrev lN:Stmt:=top 42
noncomputable abbrev kX:List Str:=["train","path","enters"]
@[irreducible] noncomputable def kW (K:W.Frag)(CL:Addr):DS→Out:=(bw (bm (sL (ab 1)) [none,some 2,some 0] (bR 0) yes (ae (ab 1) (f7 (pC (ab 2) (pC (ab 0) pN))) cB)))
noncomputable def hJ (K:W.Frag)(CL:Addr):List D→Res D:=gU 3 kX (kW K CL)
theorem yt:FnScope kX ["train","path","enters"] (ag lN):=⟨rfl,rfl,rfl,by decide +kernel,rfl,by decide +kernel,by decide +kernel⟩
theorem nZ (T:Txt K mg CL)(S:Sta K mg "row_of" lN ["train","path","enters"]):Cal P w K mg base "row_of" 1 ["train","path","enters"] (freshSp K 1 (hJ K CL)):=by
 refine S.cal (k:=0) (r:=1) (F:=kW K CL) yt [] (by decide) rfl fun f cdv A outer s H E hr=>?_;unfold kW;exact(ai (aM (ay (b0 (j:=0) rfl (aR (N:=["stretch","enters","train"]) (caps:=[none,some 2,some 0]) (ag lN) kX rfl rfl (by decide +kernel)) rfl rfl rfl (bv (dv 1)) (fun _ _ _ _=>bg) (fun _ _ _ _=>(PN.of (nF hr.units (dv 1) (d6 (aa (dv 2) (aa (dv 0) ac))))))))))
noncomputable abbrev iY:Stmt:=top 41
noncomputable abbrev iz:List Str:=["paths","enters"]
@[irreducible] noncomputable def il (K:W.Frag)(CL:Addr):DS→Out:=(bw (bm (sE (pC (ab 0) pN)) [none,none,some 1] (eE 0 1) yes (bL (pC (ab 0) (pC (ab 1) (pC (ab 2) pN))) (hJ K CL))))
noncomputable def fK (K:W.Frag)(CL:Addr):List D→Res D:=gU 2 iz (il K CL)
theorem uo:FnScope iz ["paths","enters"] (ag iY):=⟨rfl,rfl,rfl,by decide +kernel,rfl,by decide +kernel,by decide +kernel⟩
theorem ko (T:Txt K mg CL)(S:Sta K mg "table_of" iY ["paths","enters"])(nZ:Cal P w K mg base "row_of" 1 ["train","path","enters"] (freshSp K 1 (hJ K CL))):Cal P w K mg base "table_of" 2 ["paths","enters"] (freshSp K 2 (fK K CL)):=by
 refine S.cal (k:=1) (r:=2) (F:=il K CL) uo [] (by decide) rfl fun f cdv A outer s H E hr=>?_;unfold il;exact(ai (aM (ay (AB (j:=0) (l:=1) rfl (aR (N:=["train","path","enters"]) (caps:=[none,none,some 1]) (ag iY) iz rfl rfl (by decide +kernel)) rfl rfl rfl rfl rfl rfl (dH rfl T.b_enumerate (aa (dv 0) ac)) (fun _ _ _ _=>bg) (fun _ _ _ _=>(jE (n:=1) nZ hr (aa (dv 0) (aa (dv 1) (aa (dv 2) ac))) eJ))))))
noncomputable abbrev gR:Stmt:=top 39
noncomputable abbrev gB:List Str:=["line","trains","orders","paths","waits","turn"]
@[irreducible] noncomputable def en (K:W.Frag)(CL:Addr):DS→Out:=(ax (aT 3 (bL (pC (ab 0) (pC (ab 1) pN)) (dC K CL)))
  (ax (aT 4 (Jk (bL (pC (ab 0) (pC (ab 3) (pC (ab 2) pN))) (fL K CL))))
  (ax (aT 5 (bL (pC (ab 4) pN) (hG K CL)))
  (ax (i3 (f8 (ae (c1 (ab 5) bq) (c1 (ab 4) zV) wv)) bad1 nxt)
  (bw (f7 (pC (oQ 1 (oQ 0 (kS (Str.ofString "table")))) (pC (bL (pC (ab 3) (pC (Jk (bL (pC (ab 1) (pC (ab 4) (pC (ab 5) pN))) (cr K CL))) pN)) (fK K CL)) pN))))))))
noncomputable def cG (K:W.Frag)(CL:Addr):List D→Res D:=gU 3 gB (en K CL)
theorem sc_least_table:FnScope gB ["line","trains","orders"] (ag gR):=⟨rfl,rfl,rfl,by decide +kernel,rfl,by decide +kernel,by decide +kernel⟩
theorem gH (T:Txt K mg CL)(S:Sta K mg "least_table" gR ["line","trains","orders"])(lT:Cal P w K mg base "in_turn" 3 ["waits"] (freshSp K 1 (hG K CL)))(fw:Cal P w K mg base "least_enters" 1 ["trains","waits","turn"] (freshSp K 1 (cr K CL)))(ko:Cal P w K mg base "table_of" 2 ["paths","enters"] (freshSp K 2 (fK K CL)))(kr:Cal P w K mg base "waits_of" 2 ["line","paths","orders"] (freshSp K 2 (fL K CL)))(iF:Cal P w K mg base "ways" 4 ["line","trains"] (freshSp K 0 (dC K CL))):Cal P w K mg base "least_table" 5 ["line","trains","orders"] (freshSp K 3 (cG K CL)):=by
 refine S.cal (k:=4) (r:=3) (F:=en K CL) sc_least_table [] (by decide) rfl fun f cdv A outer s H E hr=>?_;unfold en;exact(af (az (i:=3) sc_least_table.nd rfl (.inl rfl) (ay (PN.of (aI iF hr (aa (dv 0) (aa (dv 1) ac))))))
   (af (az (i:=4) sc_least_table.nd rfl (.inl rfl) (ay (PN.of (PN.pdF (jE (n:=2) kr hr (aa (dv 0) (aa (dv 3) (aa (dv 2) ac))))))))
   (af (az (i:=5) sc_least_table.nd rfl (.inl rfl) (ay (PN.of (aI lT hr (aa (dv 4) ac)))))
   (af (bJ (aY mG (aW T.b_len (dv 5)) (CT T.b_len (dv 4)) (bz _)) yp a_)
   (ai (aM (ay (Dl (n:=1) (ub (PN.up (PN.up (PN.of Am))) (ub (jE (n:=2) ko hr (aa (dv 3) (aa (PN.pdF (jE (n:=1) fw hr (aa (dv 1) (aa (dv 4) (aa (dv 5) ac))))) ac))) Dm))))))))))
noncomputable abbrev mQ:Stmt:=top 53
noncomputable abbrev vZ:List Str:=["script","made","trains","runs","line","due","handed","lap","found","row","told","k","at"]
noncomputable abbrev dF:List Nat:=[0,0,0,1,0,0,0,0,2,0,0,0,0]
@[irreducible] noncomputable def vX (K:W.Frag)(CL:Addr):DS→Out:=(ax (aT 1 (dQ dF (bL (pC (ab 0) (pC (kI 0) pN)) (cq K CL))))
  (ax (aT 2 (dQ dF (bL (pC (ab 0) (pC (kI 20) (pC (c1 (ae (ab 1) (kI 0) aL) bq) (pC (kI 5) pN)))) (bE K CL))))
  (ax (aT 3 (dQ dF (bL (JR (ae (ab 1) (kI 0) aL)) dS)))
  (ax (aT 4 (oQ 0 (bL (pC (ab 3) (pC (ae (ab 1) (kI 1) aL) pN)) (j7 K CL))))
  (ax (pj 3 (kI 0) (oQ 0 (ae (ae (ae (ab 3) (kI 0) aL) (kI 20) kJ) (kI 1) aZ)))
  (ax (vH 3 0 (sF 3))
  (ax (aT 5 (dQ dF (bL (pC (ae (ab 1) (kI 0) aL) (pC (ae (ab 1) (kI 1) aL) (pC (ab 2) pN))) (bO K CL))))
  (ax (aT 6 (dQ dF (c1 (ab 2) dS)))
  (ax (dP (sR1 (pC (kI 2) pN)) (bR 7) (ax (aT 8 (dQ dF (bL (pC (ab 4) (pC (ab 6) pN)) (dB K CL))))
  (ax (i3 (GY (i7 (f8 (bL (pC (ab 8) (pC (ab 5) pN)) (cW K CL)))) (f8 (ae (ab 6) (ab 2) sG))) (bw (dQ dF (kB false))) nxt)
  (ax (jp 8 9 0 9 (sF 8))
  (i3 (f8 (ae (ab 8) (bm (sL (ab 5)) [none] (bR 0) yes (ae (ab 0) (gJ (pC (kI 9) pN)) aZ)) sG)) (bw (dQ dF (kB false))) nxt)))))
  (ax (i3 (f8 (ae (bL (pC (ab 4) (pC (ab 2) (pC (ab 5) pN))) (gq K CL)) (kB true) wy)) (bw (dQ dF (kB false))) nxt)
  (ax (aT 10 (dQ dF (bL (pC (ab 4) (pC (ab 2) (pC (bL (pC (ab 4) (pC (ab 2) (pC (ab 5) pN))) (eG K CL)) pN))) (cG K CL))))
  (ax (i3 (f8 (ae (ae (ab 10) (kI 0) aL) (kS (Str.ofString "table")) sG)) (bw (dQ dF (kB false))) nxt)
  (ax (dP (sR1 (pC (c1 (ab 2) bq) pN)) (bR 11) (dP (sR1 (pC (c1 (ae (ab 5) (ab 11) aL) bq) pN)) (bR 12) (i3 (f8 (ae (ae (ae (ae (ab 10) (kI 1) aL) (ab 11) aL) (ab 12) aL) (ae (ae (ab 5) (ab 11) aL) (ab 12) aL) IV)) (bw (dQ dF (kB false))) nxt)))
  (bw (dQ dF (kB true))))))))))))))))
noncomputable def zX (K:W.Frag)(CL:Addr):List D→Res D:=gU 1 vZ (vX K CL)
theorem sc_law:FnScope vZ ["script"] (ag mQ):=⟨rfl,rfl,rfl,by decide +kernel,rfl,by decide +kernel,by decide +kernel⟩
theorem Hh {f:Addr}{fd:FuncData}(T:Txt K mg CL)(Fn:Fun K "law" "law" mQ f fd)(dl:Cal P w K mg base "_law_first_come" 2 ["runs","gap","trains"] (freshSp K 2 (bO K CL)))(fq:Cal P w K mg base "_law_line_by" 2 ["script","base"] (freshSp K 0 (cq K CL)))(jf:Cal P w K mg base "_law_rows" 3 ["found","due"] (freshSp K 0 (cW K CL)))(dX:Cal P w K mg base "_law_trains_by" 2 ["script","base","stretches","most"] (freshSp K 1 (bE K CL)))(iE:Cal P w K mg base "first_come" 5 ["line","trains"] (freshSp K 2 (dB K CL)))(k7:Cal P w K mg base "keeps" 5 ["line","trains","table"] (freshSp K 0 (gq K CL)))(gH:Cal P w K mg base "least_table" 5 ["line","trains","orders"] (freshSp K 3 (cG K CL)))(jh:Cal P w K mg base "orders_of" 7 ["line","trains","table"] (freshSp K 2 (eG K CL)))(c_Line:CalI P w K mg base "Line" CL 2 ["self","runs","clear"] (j7 K CL)):FnOk P w K mg base (CXF P w) 8 f fd ["script"] (freshSp K 0 (zX K CL)):=by
 refine Fn.freshM (k:=7) (r:=0) (F:=vX K CL) sc_law dF (by decide) rfl fun cdv A outer s H E l=>?_;unfold vX;exact(af (az (i:=1) sc_law.nd rfl (.inl rfl) (aF (PN.of (aI fq l (aa (dv 0) (aa ah ac))))))
   (af (az (i:=2) sc_law.nd rfl (.inl rfl) (aF (PN.of (aI dX l (aa (dv 0) (aa ah (aa (aW T.b_len (aw (dv 1) ah)) (aa ah ac))))))))
   (af (az (i:=3) sc_law.nd rfl (.inl rfl) (aF (Dk (aw (dv 1) ah) rfl T.b_list)))
   (af (az (i:=4) sc_law.nd rfl (.inl rfl) (cN (PN.of (Iq c_Line l (aa (dv 3) (aa (aw (dv 1) ah) ac))))))
   (af (rZ (j:=3) (n:=0) rfl rfl (.inl rfl) ah (cN (PN.of (ar aA (ar ky (aw (dv 3) ah) ah) ah))))
   (af (Di (n:=0) rfl (nY (j:=3) rfl (.inl rfl)))
   (af (az (i:=5) sc_law.nd rfl (.inl rfl) (aF (PN.of (aI dl l (aa (aw (dv 1) ah) (aa (aw (dv 1) ah) (aa (dv 2) ac)))))))
   (af (az (i:=6) sc_law.nd rfl (.inl rfl) (aF (PN.of (CU T.b_list (dv 2)))))
   (af (dJ (j:=7) PassesOwn.leaving rfl sc_law.nd rfl (.inl rfl) rfl (d9 rfl T.b_range (aa ah ac))
    (af (az (i:=8) sc_law.nd rfl (.inl rfl) (aF (jE (n:=2) iE l (aa (dv 4) (aa (dv 6) ac)))))
   (af (bJ (PDW.pt (rR (bZ (iP (aI jf l (aa (dv 8) (aa (dv 5) ac))))) (nJ (aY (la l.units) (dv 6) (dv 2) (bz _))))) (ai (aM (aF (PN.of dU)))) a_)
   (af (yo (j:=8) (n:=0) (m:=0) (jr:=9) PassesOwn.leaving rfl rfl (by decide) sc_law.nd rfl (.inl rfl) (.inl rfl) (nY (j:=8) rfl (.inl rfl)))
   (ai (bJ (aY (la l.units) (dv 8) (PN.pd (b0 (j:=0) rfl (aR (N:=["row"]) (caps:=[none]) (ag mQ) vZ rfl rfl (by decide +kernel)) rfl rfl rfl (bv (dv 5)) (fun _ _ _ _=>bg) (fun _ _ _ _=>(PN.of (ar aA (dv 0) (oZ (aa ah ac))))))) (bz _)) (ai (aM (aF (PN.of dU)))) a_))))))
   (af (bJ (aY zc (aI k7 l (aa (dv 4) (aa (dv 2) (aa (dv 5) ac)))) dU (bz _)) (ai (aM (aF (PN.of dU)))) a_)
   (af (az (i:=10) sc_law.nd rfl (.inl rfl) (aF (PN.of (aI gH l (aa (dv 4) (aa (dv 2) (aa (aI jh l (aa (dv 4) (aa (dv 2) (aa (dv 5) ac)))) ac)))))))
   (af (bJ (aY (la l.units) (aw (dv 10) ah) Am (bz _)) (ai (aM (aF (PN.of dU)))) a_)
   (af (dJ (j:=11) PassesOwn.leaving rfl sc_law.nd rfl (.inl rfl) rfl (d9 rfl T.b_range (aa (aW T.b_len (dv 2)) ac))
    (ai (dJ (j:=12) PassesOwn.leaving rfl sc_law.nd rfl (.inl rfl) rfl (d9 rfl T.b_range (aa (aW T.b_len (aw (dv 5) (dv 11))) ac))
    (ai (bJ (aY DY (aw (aw (aw (dv 10) ah) (dv 11)) (dv 12)) (aw (aw (dv 5) (dv 11)) (dv 12)) (bz _)) (ai (aM (aF (PN.of dU)))) a_)))))
   (ai (aM (aF (PN.of dU)))))))))))))))))
end
end K09
namespace K09
open PySem L2
section
variable{K:W.Frag}{CL:Addr}
theorem gY {ns:List Int}{k many:Int}(h0:0≤k)(h1:k<100000)(h2:0<many)(h3:many<100000):aE K CL [.scr ns,.int k,.int many]= .ok (.int (drawn ns k many)):=by
 unfold aE;refine(bu rfl).trans ?_;have e0:aC iq [D.scr ns,.int k,.int many]=[some (.scr ns),some (.int k),some (.int many),none,none]:=rfl;rw[e0];unfold eO;have st1:= @DH ns k;have u1:∀z:Int,fO (.int z) (.int 48271)= .ok (.int (z*48271)):=fun z=>jl (by decide) (by decide);have u2:∀z:Int,fO (.int z) (.int 7919)= .ok (.int (z*7919)):=fun z=>jl (by decide) (by decide);have u3:∀z:Int,fO (.int z) (.int 16807)= .ok (.int (z*16807)):=fun z=>jl (by decide) (by decide);have u4:fO (.int (jJ ns k)) (.int (jJ ns k))= .ok (.int (jJ ns k*jJ ns k)):=jl (by omega) (by omega);have u5:∀z:Int,kJ (.int z) (.int 2147483647)= .ok (.int (z % 2147483647)):=fun z=>rb (by decide);have u6:∀z:Int,tE (.int z) (.int 16)= .ok (.int (z / 16)):=fun z=>BT (by decide) (by decide);have u7:∀z:Int,kJ (.int z) (.int many)= .ok (.int (z % many)):=fun z=>rb h2;by_cases hz:ns.length=0
 ·have hd:decide (0<(ns.length:Int))=false:=decide_eq_false (by omega);have hc7:cellOf ns k=7:=if_pos hz;have e1:(7*48271+(k+1)*7919+(ns.length:Int)) % 2147483647=jJ ns k:=by unfold jJ;rw[hc7]
  simp only[aJ,ra,hd,u1,u2,u3,u5,u6,u7,e1,u4];rfl
 ·have hd:decide (0<(ns.length:Int))=true:=decide_eq_true (by omega);have hix:=BG (k:=k) hz;have e1:(cellOf ns k*48271+(k+1)*7919+(ns.length:Int)) % 2147483647=jJ ns k:=rfl;have hnl:0<(ns.length:Int):=by omega
  have u8:∀z:Int,kJ (.int z) (.int (ns.length:Int))= .ok (.int (z % (ns.length:Int))):=fun z=>rb hnl;simp only[aJ,ra,hd,u1,u2,u3,u5,u6,u7,u8,Fc hix,e1,u4];rfl
theorem Bl {i:Int}:dA K CL [.int i]= .ok (.bl true):=by
 unfold dA;refine(bu rfl).trans ?_;have e0:aC ir [D.int i]=[some (.int i)]:=rfl;rw[e0];unfold eP;have e1:lw K (cV (.ty "int")) (.int i)= .ok (.bl true):=by unfold lw GZ;dsimp only;rw[show cV (.ty "int")=Value.type "int" from rfl,tQ]
 have e2:lw K (cV (.ty "bool")) (.int i)= .ok (.bl false):=by unfold lw GZ;dsimp only;rw[show cV (.ty "bool")=Value.type "bool" from rfl,FH]
 simp only[aJ,e1,e2]
theorem JQ {l:List D}:lw K (cV (.ty "list")) (.lst l)= .ok (.bl true):=by unfold lw GZ;dsimp only;rw[show cV (.ty "list")=Value.type "list" from rfl,tQ]
theorem GB {ns:List Int}(h:ns.length<1000000):fH K CL [.lst (ns.map D.int),.lst (ns.map D.int)]= .ok (.bl true):=by
 unfold fH;refine(bu rfl).trans ?_;have e0:aC kg [D.lst (ns.map D.int),.lst (ns.map D.int)]=[some (.lst (ns.map D.int)),some (.lst (ns.map D.int)),none]:=rfl;rw[e0];unfold ig;simp only[aJ,JQ,dw,bne_self_eq_false,beq_self_eq_true,eV h];refine lm (fun rem ρ=>(∀d∈rem,∃i:Nat,i<ns.length∧d= .int i)∧∃o,ρ=[some (.lst (ns.map D.int)),some (.lst (ns.map D.int)),o]) ⟨fun d hd=>?_,none,rfl⟩ (fun d ds ρ hZ179=>?_) (fun ρ' hZ180=>?_)
 ·obtain⟨i,hi,rfl⟩:=mem_map.mp hd;exact⟨i,mem_range.mp hi,rfl⟩
 ·refine cps fun PP kP=>?_;obtain⟨hd,o,e⟩:=hZ179;subst e;obtain⟨i,hi,rfl⟩:=hd d (mem_cons_self ..);refine kP ?_;clear kP PP;refine(CA _ _ rfl ?_ (fun x hx=>hd x (cR hx)) (some (.int i)) rfl);have hix:=bb (g:=D.int) (cz hi);simp only[aJ,hix,Bl,beq_self_eq_true]
 ·obtain⟨_,o,e⟩:=hZ180;subst e;simp only[aJ]
theorem Dw {p:List (List Int)}(h:p.length<1000000)(hr:∀r∈p,r.length<1000000):cW K CL [.lst (p.map fun r=>.lst (r.map D.int)),.lst (p.map fun r=>.lst (r.map D.int))]= .ok (.bl true):=by
 unfold cW;refine(bu rfl).trans ?_;have e0:aC jc [D.lst (p.map fun r=>.lst (r.map D.int)),.lst (p.map fun r=>.lst (r.map D.int))]=[some (.lst (p.map fun r=>.lst (r.map D.int))),some (.lst (p.map fun r=>.lst (r.map D.int))),none]:=rfl;rw[e0];unfold f9;simp only[aJ,JQ,eV h];refine lm (fun rem ρ=>(∀d∈rem,∃i:Nat,i<p.length∧d= .int i)∧∃o,ρ=[some (.lst (p.map fun r=>.lst (r.map D.int))),some (.lst (p.map fun r=>.lst (r.map D.int))),o]) ⟨fun d hd=>?_,none,rfl⟩ (fun d ds ρ hZ181=>?_) (fun ρ' hZ182=>?_)
 ·obtain⟨i,hi,rfl⟩:=mem_map.mp hd;exact⟨i,mem_range.mp hi,rfl⟩
 ·refine cps fun PP kP=>?_;obtain⟨hd,o,e⟩:=hZ181;subst e;obtain⟨i,hi,rfl⟩:=hd d (mem_cons_self ..);refine kP ?_;clear kP PP;refine(CA _ _ rfl ?_ (fun x hx=>hd x (cR hx)) (some (.int i)) rfl);have hix:=bb (g:=fun r:List Int=>D.lst (r.map D.int)) (cz hi);simp only[aJ,hix,GB (hr _ (getElem_mem hi))]
 ·obtain⟨_,o,e⟩:=hZ182;subst e;simp only[aJ]
theorem Is {k:Int}(h:0≤k∧k<2):∃v:Int,(v=4∨v=20)∧aL (.lst [.int 4,.int 20]) (.int k)= .ok (.int v):=by
 rcases (show k=0∨k=1 by omega) with rfl|rfl
 ·exact⟨4,.inl rfl,zi⟩
 ·exact⟨20,.inr rfl,zj⟩
theorem Iu {k:Int}(h:0≤k∧k<3):∃v:Int,1≤v∧v≤61∧aL (.lst [.int 1,.int 9,.int 61]) (.int k)= .ok (.int v):=by
 rcases (show k=0∨k=1∨k=2 by omega) with rfl|rfl|rfl
 ·exact(gW 1 (by omega) (by omega) zi)
 ·exact(gW 9 (by omega) (by omega) zj)
 ·exact(gW 61 (by omega) (by omega) (on (ki (by decide) rfl)))
structure GoodLine (rs:List Int)(g:Int):Prop where
 one:1≤rs.length
 few:rs.length≤5
 run:∀r∈rs,1≤r∧r≤20
 gap:0≤g∧g≤5
theorem x_ {ns:List Int}{base:Int}(h0:0≤base)(h1:base<1000):∃rs g,GoodLine rs g∧cq K CL [.scr ns,.int base]= .ok (.tup [.lst (rs.map D.int),.int g]):=by
 have b1:=iK (ns:=ns) (k:=base) (many:=5) (by decide);obtain⟨m,em⟩:∃m:Nat,1+drawn ns base 5=(m:Int):=⟨(1+drawn ns base 5).toNat,by omega⟩;obtain⟨v,hv,ev⟩:=Is (iK (ns:=ns) (k:=base+1) (many:=2) (by decide));refine(l8 ((List.range m).map fun (i:Nat)=>1+drawn ns (base+2+(i:Int)) v) (drawn ns (base+8) 6) ⟨by rw[length_map,length_range];omega,by rw[length_map,length_range];omega,fun r hr=>?_,?_⟩ ?_)
 ·obtain⟨i,_,rfl⟩:=mem_map.mp hr;have:=iK (ns:=ns) (k:=base+2+(i:Int)) (many:=v) (by omega);omega
 ·have:=iK (ns:=ns) (k:=base+8) (many:=6) (by decide);omega
 ·unfold cq;refine(bu rfl).trans ?_;have e0:aC dg [D.scr ns,.int base]=[some (.scr ns),some (.int base),none,none]:=rfl;rw[e0];unfold cZ;have d1:=gY (K:=K) (CL:=CL) (ns:=ns) (k:=base) (many:=5) h0 (Int.lt_trans h1 (by decide)) (by decide) (by decide);have d2:=gY (K:=K) (CL:=CL) (ns:=ns) (k:=base+1) (many:=2) (by omega) (by omega) (by decide) (by decide);have d3:=gY (K:=K) (CL:=CL) (ns:=ns) (k:=base+8) (many:=6) (by omega) (by omega) (by decide) (by decide);simp only[aJ,d1,em];rw[bf (xs:=List.range m) (c:=fun (i:Nat)=>D.int (i:Int)) (g:=fun (i:Nat)=>D.int (1+drawn ns (base+2+(i:Int)) v)) (by simp only[aJ,eV (show m<1000000 by omega)]) (by rw[length_range];omega) (fun i hi=>⟨_,rfl,?_⟩)]
  ·simp only[aJ,d3,map_map];rfl
  ·have hi:=mem_range.mp hi;have d4:=gY (K:=K) (CL:=CL) (ns:=ns) (k:=base+2+(i:Int)) (many:=v) (by omega) (by omega) (by omega) (by omega);have ec:dn [none,some 0,some 1] [some (D.scr ns),some (D.int base),some (D.int (m:Int)),none]=[none,some (.scr ns),some (.int base)]:=rfl;rw[ec];simp only[aJ,d2,ev,d4]
end
section
variable{K:W.Frag}{CL:Addr}
noncomputable abbrev Tr:=Nat×Nat×Int
noncomputable def br (t:Tr):D:=.tup [.int t.1,.int t.2.1,.int t.2.2]
structure Good (n:Nat)(t:Tr):Prop where
 a:t.1≤n
 b:t.2.1≤n
 ne:t.1≠t.2.1
 r:0≤t.2.2∧t.2.2≤60
noncomputable def aq (t:Tr):List Nat:=if t.1<t.2.1 then (List.range (t.2.1-t.1)).map (t.1 + ·) else ((List.range (t.1-t.2.1)).map (t.2.1 + ·)).reverse
noncomputable def aV (l:List Nat):List D:=l.map fun (i:Nat)=>D.int (i:Int)
theorem cP {n:Nat}{t:Tr}(g:Good n t):∀s∈aq t,s<n:=by
 intro s hs;have:=g.a;have:=g.b;unfold aq at hs;split at hs
 ·obtain⟨i,hi,rfl⟩:=mem_map.mp hs;have:=mem_range.mp hi;omega
 ·obtain⟨i,hi,rfl⟩:=mem_map.mp (List.mem_reverse.mp hs);have:=mem_range.mp hi;omega
theorem cx {t:Tr}:(aq t).Nodup:=by
 have go:∀a n:Nat,((List.range n).map (a + ·)).Nodup:=fun a n=>by
  refine List.Pairwise.map _ (fun x y h=>?_) (List.nodup_range (n:=n));intro z;exact h (by omega)
 unfold aq;split
 ·exact go _ _
 ·exact(List.pairwise_reverse.mpr ((go _ _).imp fun h z=>h z.symm))
theorem eL {n:Nat}{t:Tr}(g:Good n t):(aq t).length≤n:=by
 have:=g.a;have:=g.b;unfold aq;split
 ·rw[length_map,length_range];omega
 ·rw[length_reverse,length_map,length_range];omega
theorem Bk {n:Nat}{t:Tr}(g:Good n t):0<(aq t).length:=by
 have:=g.a;have:=g.b;have:=g.ne;unfold aq;split
 ·rw[length_map,length_range];omega
 ·rw[length_reverse,length_map,length_range];omega
theorem lJ {a b:Nat}:pf (a:Int) ((b:Int)-(a:Int)).toNat=aV ((List.range (b-a)).map (a + ·)):=by
 unfold pf aV;have e:((b:Int)-(a:Int)).toNat=b-a:=by omega
 rw[e,map_map];refine map_congr_left fun i _=>?_;show D.int ((a:Int)+(i:Int))=D.int (((a+i:Nat)):Int);congr 1
theorem uh {a b:Nat}(h:b<a):se ((a:Int)-1) (((a:Int)-1)-((b:Int)-1)).toNat=aV ((List.range (a-b)).map (b + ·)).reverse:=by
 have e:(((a:Int)-1)-((b:Int)-1)).toNat=a-b:=by omega
 unfold se aV;rw[e];apply ext_getElem
 ·simp
 ·intro i h1 h2;simp only[length_map,length_range,length_reverse]at h1 h2;simp only[getElem_map,getElem_range,List.getElem_reverse,length_map,length_range];congr 1;omega
theorem x8 {n:Nat}{t:Tr}(g:Good n t)(hn:n≤1000):bH K CL [br t]= .ok (.lst (aV (aq t))):=by
 have ha:=g.a;have hb:=g.b;obtain⟨a,b,r⟩:=t;unfold bH;refine(bu rfl).trans ?_;have e0:aC fj [br (a,b,r)]=[some (.tup [.int a,.int b,.int r])]:=rfl;rw[e0];unfold ii;have cp:∀x y:Nat,x≤1000→y≤1000→∀ρ:DS,(sR2 (pC (kI x) (pC (kI y) pN))) ρ= .ok (aV ((List.range (y-x)).map (x + ·))):=fun x y hx hy ρ=>by
  simp only[aJ,rf (show -1000000≤(x:Int) by omega) (show (x:Int)<1000000 by omega) (show -1000000≤(y:Int) by omega) (show (y:Int)<1000000 by omega),lJ]
 simp only[aJ];dsimp only at ha hb;by_cases hab:a<b
 ·have e1:decide ((a:Int)<(b:Int))=true:=decide_eq_true (by omega);simp only[aJ,e1];rw[bf (xs:=(List.range (b-a)).map (a + ·)) (c:=fun (i:Nat)=>D.int (i:Int)) (g:=fun (i:Nat)=>D.int (i:Int)) (by
   simp only[aJ,rf (show -1000000≤(a:Int) by omega) (show (a:Int)<1000000 by omega) (show -1000000≤(b:Int) by omega) (show (b:Int)<1000000 by omega),lJ];rfl) (by rw[length_map,length_range];omega) (fun i hi=>⟨_,rfl,rfl⟩)]
  simp only[aJ];unfold aq;rw[if_pos (show (a,b,r).1<(a,b,r).2.1 from hab)];rfl
 ·have e1:decide ((a:Int)<(b:Int))=false:=decide_eq_false (by omega);simp only[aJ,e1];rw[bf (xs:=(List.range (a-b)).map (b + ·)) (c:=fun (i:Nat)=>D.int (i:Int)) (g:=fun (i:Nat)=>D.int (i:Int)) (by
   simp only[aJ,rf (show -1000000≤(b:Int) by omega) (show (b:Int)<1000000 by omega) (show -1000000≤(a:Int) by omega) (show (a:Int)<1000000 by omega),lJ];rfl) (by rw[length_map,length_range];omega) (fun i hi=>⟨_,rfl,rfl⟩)]
  simp only[aJ];have e2:∀l:List D,ug (.lst l) (.int (-1))= .ok (.lst l.reverse):=fun l=>by unfold ug;rfl
  simp only[aJ,e2];unfold aq aV;rw[if_neg (show ¬(a,b,r).1<(a,b,r).2.1 from hab),List.map_reverse]
theorem FP {n s d:Nat}(hs:s≤n)(hd:d<n):(s+1+d) % (n+1)≠s:=by
 by_cases h:s+1+d<n+1
 ·rw[Nat.mod_eq_of_lt h];omega
 ·have:(s+1+d) % (n+1)=s+1+d-(n+1):=by
   rw[Nat.mod_eq_sub_mod (by omega),Nat.mod_eq_of_lt (by omega)]
  omega
theorem kb {base:Int}{i:Nat}(c:Int)(h0:0≤base)(h1:base<1000)(hi:i<5)(hc:0≤c∧c≤40):0≤base+c+5*(i:Int)∧base+c+5*(i:Int)<2000:=by omega
theorem uy {ns:List Int}{base most:Int}{n:Nat}(h0:0≤base)(h1:base<1000)(hn:1≤n)(hn5:n≤5)(hm:1≤most)(hm5:most≤5) :
  ∃ts:List Tr,(ts.length:Int)=1+drawn ns base most∧(∀t∈ts,Good n t)∧bE K CL [.scr ns,.int base,.int n,.int most]= .ok (.lst (ts.map br)):=by
 have b1:=iK (ns:=ns) (k:=base) (many:=most) (by omega);obtain⟨m,em⟩:∃m:Nat,1+drawn ns base most=(m:Int):=⟨(1+drawn ns base most).toNat,by omega⟩;have dr:∀k many:Int,0≤k→k<2000→0<many→many<1000→∃a:Nat,(a:Int)=drawn ns k many∧(a:Int)<many∧aE K CL [.scr ns,.int k,.int many]= .ok (.int (a:Int)):=fun k many k0 k1 m0 m1=>by
  have:=iK (ns:=ns) (k:=k) (many:=many) m0;refine⟨(drawn ns k many).toNat,by omega,by omega,?_⟩;rw[Int.toNat_of_nonneg this.1];exact gY k0 (by omega) m0 (by omega)
 suffices goal:∃d,bE K CL [.scr ns,.int base,.int n,.int most]= .ok d∧∃ts:List Tr,d= .lst (ts.map br)∧ts.length=m∧∀t∈ts,Good n t by
  obtain⟨_,e,ts,rfl,hl,hg⟩:=goal;exact⟨ts,by omega,hg,e⟩
 have n1:0<(n:Int)+1:=by omega
 have n2:(n:Int)+1<1000:=by omega
 have n3:0<(n:Int):=by omega
 have n4:(n:Int)<1000:=by omega
 have m5:∀z:Int,fO (.int 5) (.int z)= .ok (.int (5*z)):=fun z=>zk (by decide) (by decide);have mn:∀z:Int,fO (.int z) (.int (n:Int))= .ok (.int (z*(n:Int))):=fun z=>jl (Int.lt_of_lt_of_le (by decide) (natCast_nonneg n)) (Int.lt_trans n4 (by decide));have md:∀z:Int,kJ (.int z) (.int ((n:Int)+1))= .ok (.int (z % ((n:Int)+1))):=fun z=>rb n1;have b40:0≤base+40∧base+40<2000:=by omega
 unfold bE;rw [show gU 4 bQ (bD K CL) [D.scr ns,D.int base,D.int n,D.int most]=fQ (bD K CL (aC bQ [D.scr ns,D.int base,D.int n,D.int most])) from bu rfl];have e0:aC bQ [D.scr ns,.int base,.int n,.int most]=[some (.scr ns),some (.int base),some (.int n),some (.int most),none,none,none,none]:=rfl;rw [e0];unfold bD;have d1:=gY (K:=K) (CL:=CL) (ns:=ns) (k:=base) (many:=most) (by omega) (by omega) (by omega) (by omega);simp only [aJ,d1,em,eV (show m < 1000000 by omega)];refine xJ (fun rem ρ=>∃ ts:List Tr,ts.length+rem.length=m∧(∀ t∈ts,Good n t)∧∃ o5 o6 o7,ρ=[some (.scr ns),some (.int base),some (.int n),some (.int most),some (.lst (ts.map br)),o5,o6,o7]∧∀ d∈rem,∃ i:Nat,i < m∧d= .int i)
  ⟨[],by simp,fun _ h=>(by cases h),none,none,none,rfl,fun d hd=>?_⟩ (fun d ds ρ ⟨ts,hl,hg,o5,o6,o7,e,hd⟩=>?_) (fun W ⟨ts,hl,hg,o5,o6,o7,e,_⟩=>?_)
 ·obtain⟨i,hi,rfl⟩:=mem_map.mp hd;exact⟨i,mem_range.mp hi,rfl⟩
 ·refine cps fun PP kP=>?_;subst e;obtain⟨i,hi,rfl⟩:=hd d (mem_cons_self ..);rw[length_cons]at hl;have p:i<5:=by omega
  obtain⟨s,_,hs,es⟩:=dr (base+1+5*(i:Int)) ((n:Int)+1) (kb 1 h0 h1 p (by decide)).1 (kb 1 h0 h1 p (by decide)).2 n1 n2;obtain⟨x,_,hx,ex⟩:=dr (base+2+5*(i:Int)) (n:Int) (kb 2 h0 h1 p (by decide)).1 (kb 2 h0 h1 p (by decide)).2 n3 n4;obtain⟨c,_,hc,ec⟩:=dr (base+3+5*(i:Int)) 3 (kb 3 h0 h1 p (by decide)).1 (kb 3 h0 h1 p (by decide)).2 (by decide) (by decide);obtain⟨y,_,hy,ey⟩:=dr (base+4+5*(i:Int)) 2 (kb 4 h0 h1 p (by decide)).1 (kb 4 h0 h1 p (by decide)).2 (by decide) (by decide);obtain⟨z,_,hz,ez⟩:=dr (base+40) 3 b40.1 b40.2 (by decide) (by decide);obtain⟨v,v0,v1,ev⟩:=Iu (k:=(z:Int)) ⟨natCast_nonneg z,hz⟩;obtain⟨r,_,hr,er⟩:=dr (base+5+5*(i:Int)) v (kb 5 h0 h1 p (by decide)).1 (kb 5 h0 h1 p (by decide)).2 v0 (Int.lt_of_le_of_lt v1 (by decide));refine kP ?_;clear kP PP;have r60:0≤(r:Int)∧(r:Int)≤60:=⟨natCast_nonneg r,by omega⟩;have sn:s≤n:=by omega
  have xn:x<n:=by omega
  have eg:((s:Int)+1+(x:Int)) % ((n:Int)+1)=(((s+1+x) % (n+1):Nat):Int):=by push_cast;rfl
  have g1:Good n (s,(s+1+x) % (n+1),(r:Int)):=⟨sn,Nat.le_of_lt_succ (Nat.mod_lt (s+1+x) (Nat.succ_pos n)),fun h=>FP sn xn h.symm,r60⟩;have step:∀(a b:Nat) (o:Option D),Good n (a,b,(r:Int))→∃W,nW 4 (dQ aX (f7 (pC (ab 6) (pC (ab 7) (pC (bL (pC (ab 0) (pC (ae (ae (ab 1) (kI 5) aZ) (ae (kI 5) (ab 5) fO) aZ) (pC (ae (gJ (pC (kI 1) (pC (kI 9) (pC (kI 61) pN)))) (bL (pC (ab 0) (pC (ae (ab 1) (kI 40) aZ) (pC (kI 3) pN))) (aE K CL)) aL) pN))) (aE K CL)) pN)))))
    [some (.scr ns),some (.int base),some (.int n),some (.int most),some (.lst (ts.map br)),some (.int i),some (.int a),some (.int b)]= .nx W∧W=[some (.scr ns),some (.int base),some (.int n),some (.int most),some (.lst ((ts ++ [(a,b,(r:Int))]).map br)),some (.int i),some (.int a),some (.int b)]:=fun a b o g=>by
   refine⟨_,qZ (l:=ts.map br) (d:=br (a,b,(r:Int))) rfl ?_ (by rw[length_map];omega),?_⟩
   ·simp only[aJ,m5,ez,ev,er];rfl
   ·rw[map_append];rfl
  have hd':∀x∈ds,∃i:Nat,i<m∧x= .int i:=fun x hx=>hd x (cR hx);have fin:∀(a b:Nat),Good n (a,b,(r:Int))→∃ts':List Tr,ts'.length+ds.length=m∧(∀t∈ts',Good n t)∧∃o5 o6 o7,[some (D.scr ns),some (.int base),some (.int n),some (.int most),some (.lst ((ts ++ [(a,b,(r:Int))]).map br)),some (.int i),some (.int a),some (.int b)]=[some (.scr ns),some (.int base),some (.int n),some (.int most),some (.lst (ts'.map br)),o5,o6,o7]∧∀d∈ds,∃i:Nat,i<m∧d= .int i:=fun a b g=>
   ⟨ts ++ [(a,b,(r:Int))],by rw[length_append];simp;omega,fun t ht=>by
    rcases mem_append.mp ht with h|h
    ·exact hg t h
    ·rw[mem_singleton.mp h];exact g,_,_,_,rfl,hd'⟩
  by_cases hc1:c=1
  ·have e1:((c:Int)==1)=true:=by rw[hc1];rfl
   have g2:Good n (y*n,n-y*n,(r:Int)):=by
    have:y=0∨y=1:=by omega
    rcases this with rfl|rfl
    ·exact⟨by simp,by simp,by simp;omega,r60⟩
    ·exact⟨by simp,by simp,by simp;omega,r60⟩
   have e2:(y:Int)*(n:Int)=((y*n:Nat):Int):=by push_cast;rfl
   have e3:(n:Int)-((y*n:Nat):Int)=((n-y*n:Nat):Int):=by have:=g2.a;dsimp only at this;omega
   obtain⟨W,h1,h2⟩:=step (y*n) (n-y*n) none g2;refine⟨_,W,rfl,?_,by rw[h2];exact fin _ _ g2⟩;simp only[aJ,m5,es,ex,ec,ey,eg,e1,mn,e2,e3,md];exact h1
  ·have e1:((c:Int)==1)=false:=beq_eq_false_iff_ne.mpr (by omega);obtain⟨W,h1,h2⟩:=step s ((s+1+x) % (n+1)) none g1;refine⟨_,W,rfl,?_,by rw[h2];exact fin _ _ g1⟩;simp only[aJ,m5,es,ex,ec,eg,e1,md];exact h1
 ·subst e;refine⟨_,rfl,ts,rfl,hl,hg⟩
end
section
variable{K:W.Frag}{CL:Addr}
noncomputable def av (CL:Addr)(rs:List Int)(g:Int):D:=.ins CL ["minutes","gap"] [.tup (rs.map D.int),.int g]
theorem d7 {rs:List Int}{g:Int}:dz CL [av CL rs g]= .ok (.lst (rs.map D.int)):=by
 unfold dz av ll;dsimp only;rw[if_pos rfl];rfl
theorem kx {rs:List Int}{g:Int}:fG CL [av CL rs g]= .ok (.int g):=by
 unfold fG av ll;dsimp only;rw[if_pos rfl];have:tJ ["minutes","gap"] [.tup (rs.map D.int),.int g] "gap" =some (.int g):=by
  unfold tJ;rw[if_neg (by decide +kernel)];unfold tJ;rw[if_pos rfl]
 rw[this]
theorem zJ {rs:List Int}{g:Int}{m:Str}(h:(["minutes","gap"]:List Str).contains m=false):mH CL m (av CL rs g)=true:=by
 unfold mH av;dsimp only;rw[h];simp
theorem Fz {rs:List Int}{g:Int}:mH CL "runs" (av CL rs g)=true:=zJ (by decide +kernel)
theorem Jo {rs:List Int}{g:Int}:mH CL "clear" (av CL rs g)=true:=zJ (by decide +kernel)
theorem Cu {rs:List Int}{g:Int}(h:GoodLine rs g):j7 K CL [.lst (rs.map D.int),.int g]= .ok (av CL rs g):=by
 have e:bx K CL [.lst (rs.map D.int),.int g]= .ok .non:=by
  unfold bx;refine(bu rfl).trans ?_;have e0:aC iu [D.lst (rs.map D.int),.int g]=[some (.lst (rs.map D.int)),some (.int g),none]:=rfl;rw[e0];unfold eQ;have h1:=h.one;have h2:=h.few;have h3:=h.gap;have q1:decide (1≤(rs.length:Int))=true:=decide_eq_true (by omega);have q2:decide ((rs.length:Int)≤5)=true:=decide_eq_true (by omega);simp only[aJ,q1,q2];refine lm (fun rem ρ=>(∀d∈rem,∃r:Int,(1≤r∧r≤20)∧d= .int r)∧∃o,ρ=[some (.lst (rs.map D.int)),some (.int g),o]) ⟨fun d hd=>?_,none,rfl⟩ (fun d ds ρ hZ185=>?_) (fun ρ' hZ186=>?_)
  ·obtain⟨r,hr,rfl⟩:=mem_map.mp hd;exact⟨r,h.run r hr,rfl⟩
  ·refine cps fun PP kP=>?_;obtain⟨hd,o,e⟩:=hZ185;subst e;obtain⟨r,hr,rfl⟩:=hd d (mem_cons_self ..);refine kP ?_;clear kP PP;refine(CA _ _ rfl ?_ (fun x hx=>hd x (cR hx)) (some (.int r)) rfl);have q3:decide (1≤r)=true:=decide_eq_true hr.1;have q4:decide (r≤20)=true:=decide_eq_true hr.2;simp only[aJ,q3,q4]
  ·obtain⟨_,o,e⟩:=hZ186;subst e;have q3:decide (0≤g)=true:=decide_eq_true h3.1;have q4:decide (g≤5)=true:=decide_eq_true h3.2;simp only[aJ,q3,q4]
 unfold j7;dsimp only;rw[e,aD];rfl
theorem pM {rs:List Int}{g:Int}{t:Tr}(h:Good rs.length t):cb K CL [av CL rs g,br t]= .ok .non:=by
 obtain⟨a,b,r⟩:=t;have ha:=h.a;have hb:=h.b;have hr:=h.r;have hn:=h.ne;dsimp only at ha hb hr hn;unfold cb;refine(bu rfl).trans ?_;have e0:aC gA [av CL rs g,br (a,b,r)]=[some (av CL rs g),some (.tup [.int a,.int b,.int r]),none,none,none]:=rfl;rw[e0];unfold eh;have e3:((3:Int)==3)=true:=rfl;simp only[aJ,Fz,d7,e3];refine lm (fun rem ρ=>(∀d∈rem,∃i:Nat,i≤rs.length∧d= .int i)∧∃o,ρ=[some (av CL rs g),some (.tup [.int a,.int b,.int r]),some (.int rs.length),o,none]) ⟨fun d hd=>?_,none,rfl⟩ (fun d ds ρ hZ187=>?_) (fun ρ' hZ188=>?_)
 ·rcases mem_cons.mp hd with rfl|hd
  ·exact⟨a,ha,rfl⟩
  ·rw[mem_singleton.mp hd];exact⟨b,hb,rfl⟩
 ·refine cps fun PP kP=>?_;obtain⟨hd,o,e⟩:=hZ187;subst e;obtain⟨i,hi,rfl⟩:=hd d (mem_cons_self ..);refine kP ?_;clear kP PP;refine(CA _ _ rfl ?_ (fun x hx=>hd x (cR hx)) (some (.int i)) rfl);have q3:decide (0≤(i:Int))=true:=decide_eq_true (by omega);have q4:decide ((i:Int)≤(rs.length:Int))=true:=decide_eq_true (by omega);simp only[aJ,q3,q4]
 ·obtain⟨_,o,e⟩:=hZ188;subst e;have q2:((a:Int)==(b:Int))=false:=beq_eq_false_iff_ne.mpr (by omega);have q3:decide (0≤r)=true:=decide_eq_true hr.1;have q4:decide (r≤60)=true:=decide_eq_true hr.2;simp only[aJ,q2,q3,q4]
theorem GO {rs:List Int}{g:Int}{t:Tr}(h:Good rs.length t)(hn:rs.length≤1000):tU K CL [av CL rs g,br t]= .ok (.lst (aV (aq t))):=by
 have e1:=pM (K:=K) (CL:=CL) (g:=g) h;obtain⟨a,b,r⟩:=t;have ha:=h.a;have hb:=h.b;have hne:=h.ne;dsimp only at ha hb hne;unfold tU;refine(bu rfl).trans ?_;have e0:aC yT [av CL rs g,br (a,b,r)]=[some (av CL rs g),some (.tup [.int a,.int b,.int r]),none,none]:=rfl;rw[e0];unfold vY;have e1':cb K CL [av CL rs g,.tup [.int a,.int b,.int r]]= .ok .non:=e1;simp only[aJ,e1'];by_cases hab:a<b
 ·have q1:decide ((a:Int)<(b:Int))=true:=decide_eq_true (by omega);have q2:qr [.int (a:Int),.int (b:Int)]= .ok (.lst (aV ((List.range (b-a)).map (a + ·)))):=by
   unfold qr;dsimp only;rw[if_pos,lJ];unfold i4;simp only[and_eq_true,decide_eq_true_eq];refine⟨⟨by omega,by omega⟩,du (by omega)⟩
  simp only[aJ,q1,q2];unfold aq;rw[if_pos (show (a,b,r).1<(a,b,r).2.1 from hab)]
 ·have q1:decide ((a:Int)<(b:Int))=false:=decide_eq_false (by omega);have q2:qu [.int ((a:Int)-1),.int ((b:Int)-1),.int (-1)]= .ok (.lst (aV ((List.range (a-b)).map (b + ·)).reverse)):=by
   unfold qu;dsimp only;rw[if_pos,uh (by omega)];unfold i4;simp only[and_eq_true,decide_eq_true_eq];refine⟨⟨⟨by omega,by omega⟩,du (by omega)⟩,trivial⟩
  simp only[aJ,q1,q2];unfold aq;rw[if_neg (show ¬(a,b,r).1<(a,b,r).2.1 from hab)]
theorem nR {rs:List Int}{g:Int}{ts:List Tr}(h:∀t∈ts,Good rs.length t)(hn:rs.length≤1000)(h1:1≤ts.length)(h2:ts.length≤5):dC K CL [av CL rs g,.lst (ts.map br)]= .ok (.lst (ts.map fun t=>.lst (aV (aq t)))):=by
 unfold dC;refine(bu rfl).trans ?_;have e0:aC qM [av CL rs g,.lst (ts.map br)]=[some (av CL rs g),some (.lst (ts.map br))]:=rfl;rw[e0];unfold qK;have q1:decide (1≤(ts.length:Int))=true:=decide_eq_true (by omega);have q2:decide ((ts.length:Int)≤5)=true:=decide_eq_true (by omega);simp only[aJ,q1,q2];rw[bf (xs:=ts) (c:=br) (g:=fun t=>.lst (aV (aq t))) rfl (by omega) (fun t ht=>⟨_,rfl,?_⟩)]
 ·simp only[aJ]
 ·have ec:dn [none,some 0] [some (av CL rs g),some (.lst (ts.map br))]=[none,some (av CL rs g)]:=rfl;rw[ec];simp only[aJ,GO (K:=K) (CL:=CL) (g:=g) (h t ht) hn]
end
noncomputable def uJ (b:Int)(l:List Int):Int:=l.foldl max b
theorem eI:∀(l:List Int) (b:Int),(b≤uJ b l∧∀e∈l,e≤uJ b l)∧(uJ b l=b∨uJ b l∈l):=by
 intro l_
 induction l_ with
 |nil=>
  rintro b;exact⟨⟨Int.le_refl _,fun _ h=>by cases h⟩,.inl rfl⟩
 |cons a l ihh=>
  rintro b;obtain⟨⟨h1,h2⟩,h3⟩:=ihh (max b a);have e:uJ b (a::l)=uJ (max b a) l:=rfl;rw[e];refine⟨⟨by omega,fun x hx=>?_⟩,?_⟩
  ·rcases mem_cons.mp hx with rfl|hx
   ·omega
   ·exact h2 x hx
  ·rcases h3 with h|h
   ·rcases (show max b a=b∨max b a=a by omega) with z|z
    ·exact .inl (h.trans z)
    ·exact .inr (by rw[h,z];exact mem_cons_self ..)
   ·exact .inr (cR h)
theorem vq {b v:Int}{l:List Int}(h1:b≤v)(h2:∀e∈l,e≤v)(h3:v=b∨v∈l):uJ b l=v:=by
 obtain⟨⟨a1,a2⟩,a3⟩:=eI l b;have l1:uJ b l≤v:=by
  rcases a3 with z|z
  ·omega
  ·exact h2 _ z
 have l2:v≤uJ b l:=by
  rcases h3 with z|z
  ·omega
  ·exact a2 _ z
 omega
noncomputable abbrev Pl:=List (List Int)
noncomputable def aj (p:Pl)(k:Nat):List Int:=p.getD k []
noncomputable def aN (w:List Nat)(row:List Int)(s:Nat):List Int:=((w.zip row).filter fun q=>q.1==s).map (·.2)
noncomputable abbrev Q:=Tr×Nat
noncomputable def cc (ts:List Tr)(p:Pl)(s:Nat):List (Int×Nat):=ts.zipIdx.flatMap fun q=>(aN (aq q.1) (aj p q.2) s).map fun m=>(m,q.2)
noncomputable def apart (rs:List Int)(g:Int)(s:Nat):Int:=rs.getD s 0+g
noncomputable def free (rs:List Int)(g:Int)(ts:List Tr)(p:Pl)(s:Nat):Int:=uJ 0 ((cc ts p s).map fun e=>e.1+apart rs g s)
noncomputable def ba (p:Pl)(q:Q):Nat:=(aq q.1).getD (aj p q.2).length 0
noncomputable def there (rs:List Int)(p:Pl)(q:Q):Int:=match (aj p q.2).getLast? with
 |none=>q.1.2.2
 |some m=>m+rs.getD ((aq q.1).getD ((aj p q.2).length-1) 0) 0
noncomputable def ci (rs:List Int)(g:Int)(ts:List Tr)(p:Pl)(q:Q):Int:=max (there rs p q) (free rs g ts p (ba p q))
noncomputable def js (p:Pl)(q:Q):Bool:=decide ((aj p q.2).length<(aq q.1).length)
noncomputable def bp (ts:List Tr)(p:Pl):List Q:=ts.zipIdx.filter (js p)
noncomputable def f2 (rs:List Int)(g:Int)(ts:List Tr)(p:Pl)(q:Q):List Int:=[ci rs g ts p q,q.2]
noncomputable def f3 (rs:List Int)(g:Int)(ts:List Tr)(p:Pl)(q:Q):List Int:=[ci rs g ts p q,q.2,ba p q]
noncomputable def bI (f:Q→List Int)(q:Q)(qs:List Q):Q:=qs.foldl (fun b u=>if HT.aK (f u) (f b)=true then u else b) q
theorem p_ (f:Q→List Int):∀(qs:List Q) (q:Q),gk (f q) (qs.map f)=f (bI f q qs):=by
 intro l_
 induction l_ with
 |nil=>
  rintro _;exact rfl
 |cons u qs ihh=>
  rintro q;have e1:gk (f q) ((u::qs).map f)=gk (if HT.aK (f u) (f q)=true then f u else f q) (qs.map f):=rfl
  have e2:bI f q (u::qs)=bI f (if HT.aK (f u) (f q)=true then u else q) qs:=rfl
  rw[e1,e2,←ihh];split <;> rfl
theorem lG (f:Q→List Int):∀(qs:List Q) (q:Q),bI f q qs∈q::qs:=by
 intro l_
 induction l_ with
 |nil=>
  rintro q;exact mem_cons_self ..
 |cons u qs ihh=>
  rintro q;have e2:bI f q (u::qs)=bI f (if HT.aK (f u) (f q)=true then u else q) qs:=rfl
  rw[e2];have:=ihh (if HT.aK (f u) (f q)=true then u else q)
  rcases mem_cons.mp this with h|h
  ·rw[h];split
   ·exact cR (mem_cons_self ..)
   ·exact mem_cons_self ..
  ·exact cR (cR h)
theorem Ig {a b:Int}{i j:Nat}{s t:Int}(h:i≠j):HT.aK [a,(i:Int),s] [b,(j:Int),t]=HT.aK [a,(i:Int)] [b,(j:Int)]:=by
 have hij:¬((i:Int)=(j:Int)):=by omega
 unfold HT.aK;split
 ·unfold HT.aK;rw[if_neg hij,if_neg hij]
 ·rfl
theorem Gq {rs:List Int}{g:Int}{ts:List Tr}{p:Pl}:∀(qs:List Q) (q:Q),(∀u∈qs,u.2≠q.2)→(qs.Pairwise fun a b=>a.2≠b.2)→bI (f3 rs g ts p) q qs=bI (f2 rs g ts p) q qs:=by
 intro l_
 induction l_ with
 |nil=>
  rintro _ _ _;exact rfl
 |cons u qs ihh=>
  rintro q h hp;have e:HT.aK (f3 rs g ts p u) (f3 rs g ts p q)=HT.aK (f2 rs g ts p u) (f2 rs g ts p q):=Ig (h u (mem_cons_self ..));have e1:bI (f3 rs g ts p) q (u::qs)=bI (f3 rs g ts p) (if HT.aK (f3 rs g ts p u) (f3 rs g ts p q)=true then u else q) qs:=rfl
  have e2:bI (f2 rs g ts p) q (u::qs)=bI (f2 rs g ts p) (if HT.aK (f2 rs g ts p u) (f2 rs g ts p q)=true then u else q) qs:=rfl
  rw[e1,e2,e];rw[pairwise_cons]at hp;split
  ·exact ihh u (fun v hv z=>hp.1 v hv z.symm) hp.2
  ·exact ihh q (fun v hv=>h v (cR hv)) hp.2
noncomputable def step (rs:List Int)(g:Int)(ts:List Tr)(p:Pl)(q:Q):Pl:=p.set q.2 (aj p q.2 ++ [ci rs g ts p q])
noncomputable def run (rs:List Int)(g:Int)(ts:List Tr):Nat→Pl→Pl
 |0,p=>p
 |n+1,p=>match bp ts p with
  | []=>p
  |q::qs=>run rs g ts n (step rs g ts p (bI (f2 rs g ts p) q qs))
theorem lL {rs:List Int}{g:Int}{ts:List Tr}{p:Pl}(h:bp ts p=[]):∀n,run rs g ts n p=p
 |0=>rfl
 |n+1=>by unfold run;rw[h]
theorem lM {rs:List Int}{g:Int}{ts:List Tr}{p:Pl}{q:Q}{qs:List Q}{n:Nat}(h:bp ts p=q::qs):run rs g ts (n+1) p=run rs g ts n (step rs g ts p (bI (f2 rs g ts p) q qs)):=by
 conv=>lhs;unfold run
 rw[h]
structure Inv1 (ts:List Tr)(p:Pl):Prop where
 len:p.length=ts.length
 rows:∀q∈ts.zipIdx,(aj p q.2).length≤(aq q.1).length
 nn:∀r∈p,∀m∈r,(0:Int)≤m
theorem mem_zip {α:Type}{l:List α}{q:α×Nat}:q∈l.zipIdx↔l[q.2]?=some q.1:=by
 rw[List.mem_zipIdx_iff_getElem?]
theorem ce {p:Pl}{k:Nat}(h:k<p.length):p[k]?=some (aj p k):=by
 unfold aj;rw[getD_eq_getElem?_getD,cz h];rfl
theorem wY {p:Pl}{k:Nat}{m:Int}(h:m∈aj p k):∃r∈p,m∈r:=by
 unfold aj at h;rw[getD_eq_getElem?_getD]at h;cases q:p[k]? with
 |none=>rw[q]at h;cases h
 |some r=>rw[q]at h;exact⟨r,mem_of_getElem? q,h⟩
theorem lK {p:Pl}{k j:Nat}{r:List Int}(h:k<p.length):aj (p.set k r) j=if j=k then r else aj p j:=by
 unfold aj;rw[getD_eq_getElem?_getD,getD_eq_getElem?_getD,getElem?_set];by_cases e:k=j
 ·subst e;rw[if_pos rfl,if_pos rfl,if_pos h];rfl
 ·rw[if_neg e,if_neg (fun z=>e z.symm)]
theorem Cp {rs:List Int}{g:Int}{ts:List Tr}{p:Pl}{s:Nat}:0≤free rs g ts p s:=(eI _ _).1.1
theorem getD_mem {α:Type}{l:List α}{i:Nat}{d:α}(h:i<l.length):l.getD i d∈l:=by
 rw[getD_eq_getElem?_getD,cz h];exact getElem_mem h
theorem lv {rs:List Int}{g:Int}{ts:List Tr}{p:Pl}{q:Q}(I:Inv1 ts p)(hq:q∈bp ts p):Inv1 ts (step rs g ts p q):=by
 obtain⟨h1,h2⟩:=mem_filter.mp hq;have hz:=mem_zip.mp h1;have hk:q.2<ts.length:=(cU hz).1;have hl:(aj p q.2).length<(aq q.1).length:=of_decide_eq_true h2;have hkp:q.2<p.length:=by rw[I.len];exact hk
 refine⟨by unfold step;rw[length_set];exact I.len,fun u hu=>?_,fun r hr m hm=>?_⟩
 ·unfold step;rw[lK hkp];split
  ·rename_i e;have hu':=mem_zip.mp hu;rw[e,hz]at hu';rw[length_append,←Option.some.inj hu'];exact hl
  ·exact I.rows u hu
 ·unfold step at hr
  rcases List.mem_or_eq_of_mem_set hr with h|h
  ·exact I.nn r h m hm
  ·rw[h]at hm
   rcases mem_append.mp hm with h|h
   ·obtain⟨r',h3,h4⟩:=wY h;exact I.nn r' h3 m h4
   ·rw[mem_singleton.mp h];have:=Cp (rs:=rs) (g:=g) (ts:=ts) (p:=p) (s:=ba p q);unfold ci;omega
theorem iO {ts:List Tr}{f:Q→Bool}:(ts.zipIdx.filter f).Pairwise fun a b=>a.2≠b.2:=by
 refine List.Pairwise.filter _ ?_;have:(ts.zipIdx.map Prod.snd).Nodup:=by rw[zipIdx_map_snd];exact List.nodup_range'
 exact pairwise_map.mp this
theorem lQ {α β:Type}:∀{w:List α} {row:List β} {x:β} {s:α},w[row.length]?=some s→w.zip (row ++ [x])=w.zip row ++ [(s,x)]
 | [],row,x,s,h=>by simp at h
 |a::w,[],x,s,h=>by simp at h;subst h;simp
 |a::w,b::row,x,s,h=>by
  simp at h;rw[cons_append,zip_cons_cons,lQ h,zip_cons_cons,cons_append]
theorem iN {w:List Nat}{row:List Int}{x:Int}{s s':Nat}(h:w[row.length]?=some s):aN w (row ++ [x]) s'=aN w row s' ++ (if s=s' then [x] else []):=by
 unfold aN;rw[lQ h,filter_append,map_append];congr 1;by_cases e:s=s'
 ·subst e;rw[if_pos rfl,filter_cons_of_pos (p:=fun q:Nat×Int=>q.1==s) (a:=(s,x)) (beq_self_eq_true s)];rfl
 ·rw[if_neg e,filter_cons_of_neg (by simpa using e)];rfl
theorem dZ:∀{w:List Nat} {row:List Int} {s:Nat},w.Nodup→(aN w row s).length≤1
 | [],row,s,_=>by unfold aN;simp
 |a::w,[],s,_=>by unfold aN;simp
 |a::w,b::row,s,h=>by
  rw[nodup_cons]at h;have ih:=dZ (row:=row) (s:=s) h.2;unfold aN at ih ⊢;rw[zip_cons_cons];by_cases e:a=s
  ·subst e;rw[filter_cons_of_pos (p:=fun q:Nat×Int=>q.1==a) (a:=(a,b)) (beq_self_eq_true a)];have:(w.zip row).filter (fun q=>q.1==a)=[]:=by
    rw[List.filter_eq_nil_iff];intro q hq hqa;have e2:q.1=a:=by simpa using hqa
    exact h.1 (e2 ▸ (of_mem_zip hq).1)
   rw[this];simp
  ·rw[filter_cons_of_neg (by simpa using e)];exact ih
theorem oo {α β:Type}{f:α→List β}:∀(l:List α),(∀x∈l,(f x).length≤1)→(l.flatMap f).length≤l.length:=by
 intro l_
 induction l_ with
 |nil=>
  rintro _;exact by simp
 |cons x l ihh=>
  rintro h;rw[flatMap_cons,length_append,length_cons];have:=h x (mem_cons_self ..);have:=ihh fun y hy=>h y (cR hy);omega
theorem nq {ts:List Tr}{p:Pl}{s:Nat}:(cc ts p s).length≤ts.length:=by
 have:=oo (f:=fun q:Q=>(aN (aq q.1) (aj p q.2) s).map fun m=>(m,q.2)) ts.zipIdx fun q _=>by
  rw[length_map];exact dZ cx
 rw[length_zipIdx]at this;exact this
theorem ent_mem {ts:List Tr}{p:Pl}{s:Nat}{m:Int}{k:Nat}:(m,k)∈cc ts p s↔∃t,ts[k]?=some t∧m∈aN (aq t) (aj p k) s:=by
 unfold cc;rw[mem_flatMap];constructor
 ·intro hZ33;refine cps fun PP kP=>?_;obtain⟨q,hq,h⟩:=hZ33;obtain⟨m',hm,e⟩:=mem_map.mp h;refine kP ?_;clear kP PP;cases e;exact⟨q.1,mem_zip.mp hq,hm⟩
 ·intro hZ34;obtain⟨t,ht,hm⟩:=hZ34;exact⟨(t,k),mem_zip.mpr ht,mem_map.mpr ⟨m,hm,rfl⟩⟩
theorem uu {ts:List Tr}{p:Pl}{q:Q}(hl:(aj p q.2).length<(aq q.1).length):(aq q.1)[(aj p q.2).length]?=some (ba p q):=by
 unfold ba;rw[getD_eq_getElem?_getD,cz hl];rfl
theorem xK {rs:List Int}{g:Int}{ts:List Tr}{p:Pl}{q:Q}(I:Inv1 ts p)(hq:q∈bp ts p)(ha:0≤apart rs g (ba p q))(s:Nat) :
  free rs g ts (step rs g ts p q) s=if s=ba p q then ci rs g ts p q+apart rs g s else free rs g ts p s:=by
 obtain⟨h1,h2⟩:=mem_filter.mp hq;have hz:=mem_zip.mp h1;have hk:q.2<ts.length:=(cU hz).1;have hl:(aj p q.2).length<(aq q.1).length:=of_decide_eq_true h2;have hkp:q.2<p.length:=by rw[I.len];exact hk
 have hst:=uu (ts:=ts) hl;have n:∀m k,(m,k)∈cc ts (step rs g ts p q) s↔(m,k)∈cc ts p s∨(s=ba p q∧m=ci rs g ts p q∧k=q.2):=by
  intro m k;rw[ent_mem,ent_mem];have e:aj (step rs g ts p q) k=if k=q.2 then aj p q.2 ++ [ci rs g ts p q] else aj p k:=lK hkp
  rw[e];by_cases o:k=q.2
  ·rw[if_pos o,o,hz];constructor
   ·intro hZ35;obtain⟨t,ht,l⟩:=hZ35;cases ht;rw[iN hst]at l
    rcases mem_append.mp l with h|h
    ·exact .inl ⟨_,rfl,h⟩
    ·by_cases e:ba p q=s
     ·rw[if_pos e]at h;exact .inr ⟨e.symm,mem_singleton.mp h,rfl⟩
     ·rw[if_neg e]at h;cases h
   ·rintro (⟨t,ht,l⟩|⟨e1,e2,_⟩)
    ·cases ht;exact⟨_,rfl,by rw[iN hst];exact mem_append_left _ l⟩
    ·exact⟨_,rfl,by rw[iN hst,if_pos e1.symm,e2];exact mem_append_right _ (mem_singleton.mpr rfl)⟩
  ·rw[if_neg o];exact⟨fun h=>.inl h,fun h=>h.elim id fun z=>absurd z.2.2 o⟩
 obtain⟨⟨b1,b2⟩,b3⟩:=eI ((cc ts p s).map fun e=>e.1+apart rs g s) 0;by_cases hs:s=ba p q
 ·rw[if_pos hs];have hso:free rs g ts p s≤ci rs g ts p q:=by unfold ci;rw[←hs];omega
  have hso':uJ 0 ((cc ts p s).map fun e=>e.1+apart rs g s)≤ci rs g ts p q:=hso;rw[←hs]at ha;refine vq (by omega) (fun e he=>?_) (.inr (mem_map.mpr ⟨(ci rs g ts p q,q.2),(n _ _).mpr (.inr ⟨hs,rfl,rfl⟩),rfl⟩));obtain⟨⟨m,k⟩,l,rfl⟩:=mem_map.mp he
  rcases (n m k).mp l with h|⟨_,h,_⟩
  ·have:=b2 (m+apart rs g s) (mem_map.mpr ⟨(m,k),h,rfl⟩);dsimp only;omega
  ·rw[h];exact Int.le_refl _
 ·rw[if_neg hs];refine vq b1 (fun e he=>?_) (b3.imp id fun h=>?_)
  ·obtain⟨⟨m,k⟩,l,rfl⟩:=mem_map.mp he
   rcases (n m k).mp l with h|⟨h,_,_⟩
   ·exact b2 _ (mem_map.mpr ⟨(m,k),h,rfl⟩)
   ·exact absurd h hs
  ·obtain⟨⟨m,k⟩,l,e⟩:=mem_map.mp h;exact mem_map.mpr ⟨(m,k),(n m k).mpr (.inl l),e⟩
theorem vR {rs:List Int}{g:Int}{ts:List Tr}{p:Pl}{q u:Q}(I:Inv1 ts p)(hq:q∈bp ts p)(hu:u∈ts.zipIdx) :
  there rs (step rs g ts p q) u=if u.2=q.2 then ci rs g ts p q+rs.getD (ba p q) 0 else there rs p u:=by
 obtain⟨h1,h2⟩:=mem_filter.mp hq;have hz:=mem_zip.mp h1;have hk:q.2<ts.length:=(cU hz).1;have hkp:q.2<p.length:=by rw[I.len];exact hk
 have e:aj (step rs g ts p q) u.2=if u.2=q.2 then aj p q.2 ++ [ci rs g ts p q] else aj p u.2:=lK hkp
 unfold there;rw[e];by_cases n:u.2=q.2
 ·have hu':=mem_zip.mp hu;rw[n,hz]at hu';have eu:q.1=u.1:=Option.some.inj hu';rw[if_pos n,if_pos n,List.getLast?_concat];dsimp only;rw[length_append];show ci rs g ts p q+rs.getD ((aq u.1).getD ((aj p q.2).length+1-1) 0) 0=_;rw[Nat.add_sub_cancel,←eu];rfl
 ·rw[if_neg n,if_neg n]
theorem GI:∀{l:List Nat},(∀x∈l,x≤5)→l.sum≤5*l.length:=by
 intro l_
 induction l_ with
 |nil=>
  rintro _;exact by simp
 |cons x l ihh=>
  rintro h;have:=h x (mem_cons_self ..);have:=ihh fun y hy=>h y (List.mem_cons_of_mem x hy);rw[sum_cons,length_cons];omega
theorem nO:∀{p:Pl} {k:Nat} {x:Int},k<p.length→((p.set k (aj p k ++ [x])).map List.length).sum=(p.map List.length).sum+1
 | [],k,x,h=>by simp at h
 |r::p,0,x,h=>by
  show ((r ++ [x]).length::p.map List.length).sum=(r.length::p.map List.length).sum+1;rw[sum_cons,sum_cons,length_append];simp;omega
 |r::p,k+1,x,h=>by
  have ih:=nO (p:=p) (k:=k) (x:=x) (by simpa using h);show (r.length::(p.set k (aj p k ++ [x])).map List.length).sum=(r.length::p.map List.length).sum+1;rw[sum_cons,sum_cons,ih];omega
theorem vP {n:Nat}{ts:List Tr}{p:Pl}(I:Inv1 ts p)(hg:∀t∈ts,Good n t)(hn:n≤5)(ht:ts.length≤5):(p.map List.length).sum≤25:=by
 have h1:(p.map List.length).sum≤5*(p.map List.length).length:=GI fun x hx=>by
  refine cps fun PP kP=>?_;obtain⟨r,hr,rfl⟩:=mem_map.mp hx;obtain⟨k,hk,e⟩:=getElem_of_mem hr;refine kP ?_;clear kP PP;have hk':k<ts.length:=by rw[←I.len];exact hk
  have h2:=I.rows (ts[k],k) (mem_zip.mpr (cz hk'));have h3:aj p k=r:=by
   have:=ce hk;rw[cz hk,e]at this;exact(Option.some.inj this).symm
  dsimp only at h2;rw[h3]at h2;have:=eL (hg _ (getElem_mem hk'));omega
 rw[length_map,I.len]at h1;omega
section
variable{K:W.Frag}{CL:Addr}
noncomputable def am (r:List Int):D:=.lst (r.map D.int)
noncomputable def aQ (t:List Int):D:=.tup (t.map D.int)
noncomputable def ao (t:Tr):D:=.lst (aV (aq t))
theorem nA {a b:Nat}:((a:Int)==(b:Int))=(a==b):=by
 by_cases h:a=b
 ·subst h;simp
 ·rw[beq_eq_false_iff_ne.mpr h,beq_eq_false_iff_ne.mpr (by omega)]
theorem qV {ts:List Tr}{p:Pl}{s:Nat}(I:Inv1 ts p)(hb:∀r∈p,r.length≤1000)(ht:ts.length≤5) :
  ∃l:List (List Int),aU K CL [.lst (ts.map ao),.lst (p.map am),.int s]= .ok (.lst (l.map aQ))∧l.length≤5∧(∀t,t∈l↔t∈(cc ts p s).map fun e=>[e.1,(e.2:Int)]):=by
 refine cj (yz ((cc ts p s).map fun e=>[e.1,(e.2:Int)]) (by rw[length_map];exact le_trans nq ht) (fun t h=>by obtain⟨e,_,rfl⟩:=mem_map.mp h;exact fun z=>by cases z)) fun l e hl5 hl=>?_;refine(gW l ?_ (by rw[hl5,length_map];exact le_trans nq ht) hl);unfold aU;refine(bu rfl).trans ?_;have e0:aC eS [.lst (ts.map ao),.lst (p.map am),.int s]=[some (.lst (ts.map ao)),some (.lst (p.map am)),some (.int s),none,none,none,none,none]:=rfl;rw[e0];unfold da;simp only[aJ,eA];have one:∀q:Q,((aN (aq q.1) (aj p q.2) s).map fun m=>[m,(q.2:Int)]).length≤1:=fun q=>by rw[length_map];exact dZ cx
 refine fU (fun pre ρ=>∃o4 o5 o6 o7,ρ=[some (.lst (ts.map ao)),some (.lst (p.map am)),some (.int s),some (.lst ((pre.flatMap fun q:Q=>(aN (aq q.1) (aj p q.2) s).map fun m=>[m,(q.2:Int)]).map aQ)),o4,o5,o6,o7]) (zI none none none none rfl) (fun pre q post exs ρ hZ189=>?_) (fun ρ' hZ190=>?_)
 ·refine yO (hZ189) fun o4 o5 o6 o7 e=>?_;subst e;refine⟨_,rfl,?_⟩;have hq:q∈ts.zipIdx:=by rw[exs];simp
  have hpl:pre.length≤5:=by
   have:=congrArg List.length exs;rw[length_zipIdx,length_append]at this;omega
  have hk:q.2<p.length:=by rw[I.len];exact(cU (mem_zip.mp hq)).1
  have hix:=bb (g:=am) (ce hk);have hzp:pI [ao q.1,am (aj p q.2)]= .ok (((aq q.1).zip (aj p q.2)).map fun u=>.tup [.int (u.1:Int),.int u.2]):=lX;simp only[aJ,hix,hzp];have hfl:=oo (f:=fun q:Q=>(aN (aq q.1) (aj p q.2) s).map fun m=>[m,(q.2:Int)]) pre fun q _=>one q;have hrl:(aj p q.2).length≤1000:=hb _ (mem_of_getElem? (ce hk));refine jX (fun pr ρ=>∃o6 o7,ρ=[some (.lst (ts.map ao)),some (.lst (p.map am)),some (.int s),some (.lst (((pre.flatMap fun q:Q=>(aN (aq q.1) (aj p q.2) s).map fun m=>[m,(q.2:Int)]) ++ (pr.filter fun u=>u.1==s).map fun u=>[u.2,(q.2:Int)]).map aQ)),some (.int q.2),some (ao q.1),o6,o7]) ⟨_,_,by rw[filter_nil,map_nil,append_nil]⟩ (fun pr u po exs2 ρ hZ191=>?_) (fun ρ' hZ192=>?_)
  ·obtain⟨o6,o7,e⟩:=hZ191;subst e;refine⟨_,rfl,?_⟩;cases hu:u.1==s with
   |true=>
    simp only[aJ,nA,hu];have hpr:(pr.filter fun u=>u.1==s).length≤pr.length:=length_filter_le ..;have hpz:pr.length≤(aj p q.2).length:=by
     have:=congrArg List.length exs2;rw[length_zip,length_append]at this;omega
    refine(rF _ (qZ (d:=aQ [u.2,(q.2:Int)]) rfl (by simp only[aJ];rfl) (by rw[length_map,length_append,length_map];omega)) (some (.int u.1)) (some (.int u.2)) ?_);rw[filter_append,filter_cons_of_pos (by exact hu),filter_nil];simp only[map_append,map_cons,map_nil,append_assoc];rfl
   |false=>
    simp only[aJ,nA,hu];refine(rF _ rfl (some (.int u.1)) (some (.int u.2)) ?_);rw[filter_append,filter_cons_of_neg (by rw[hu];exact Bool.false_ne_true),filter_nil,append_nil]
  ·obtain⟨o6,o7,e⟩:=hZ192;refine(zI (some (.int q.2)) (some (ao q.1)) o6 o7 ?_);rw[e,flatMap_append,flatMap_singleton];unfold aN;rw[map_map];rfl
 ·refine yO (hZ190) fun o4 o5 o6 o7 e=>?_;subst e;have e1:(ts.zipIdx.flatMap fun q:Q=>(aN (aq q.1) (aj p q.2) s).map fun m=>[m,(q.2:Int)])=(cc ts p s).map fun e=>[e.1,(e.2:Int)]:=by
   unfold cc;rw[List.map_flatMap];congr 1;funext q;rw[map_map];rfl
  rw[e1];have e2:b7 [.lst (((cc ts p s).map fun e=>[e.1,(e.2:Int)]).map aQ)]= .ok (.lst (l.map aQ)):=e;have e3:cC 1 (.lst (l.map aQ))=true:=jS;simp only[aJ,e2,e3]
theorem nz {l:List D}:Bd (.lst l)= .ok (!l.isEmpty):=id rfl
structure Ctx (rs:List Int)(g:Int)(ts:List Tr):Prop where
 ln:GoodLine rs g
 tr:∀t∈ts,Good rs.length t
 few:ts.length≤5
 one:1≤ts.length
theorem Ctx.good {rs:List Int}{g:Int}{ts:List Tr}{q:Q}(C:Ctx rs g ts)(hq:q∈ts.zipIdx):Good rs.length q.1:=C.tr _ (mem_of_getElem? (mem_zip.mp hq))
theorem Ctx.rows {rs:List Int}{g:Int}{ts:List Tr}{p:Pl}(C:Ctx rs g ts)(I:Inv1 ts p):∀r∈p,r.length≤1000:=fun r hr=>by
 obtain⟨k,hk,e⟩:=getElem_of_mem hr;have hk':k<ts.length:=by rw[←I.len];exact hk
 have hz:(ts[k],k)∈ts.zipIdx:=mem_zip.mpr (cz hk');have h2:=I.rows _ hz;have h3:aj p k=r:=by
  have:=ce hk;rw[cz hk,e]at this;exact(Option.some.inj this).symm
 dsimp only at h2;rw[h3]at h2;have h4:(aq ts[k]).length≤rs.length:=eL (C.good hz);have:=C.ln.few;omega
theorem iS {rs:List Int}{g:Int}(h:GoodLine rs g){s:Nat}(hs:s<rs.length):1≤rs.getD s 0∧rs.getD s 0≤20:=h.run _ (getD_mem hs)
theorem Bc {rs:List Int}{g:Int}{ts:List Tr}{p:Pl}{q:Q}(C:Ctx rs g ts)(I:Inv1 ts p)(hq:q∈ts.zipIdx):0≤there rs p q:=by
 have G:=C.good hq;have hr:=I.rows q hq;unfold there
 rcases List.eq_nil_or_concat (aj p q.2) with e|⟨r,m,e⟩
 ·rw[e];exact G.r.1
 ·rw[List.concat_eq_append]at e;rw[e,List.getLast?_concat];dsimp only;have hm:0≤m:=by
   obtain⟨r',h1,h2⟩:=wY (p:=p) (k:=q.2) (m:=m) (by rw[e];simp);exact I.nn r' h1 m h2
  rw[e,length_append]at hr;have hl:(r ++ [m]).length-1<(aq q.1).length:=by rw[length_append];simp at hr ⊢;omega
  have:=iS C.ln (cP G _ (getD_mem (d:=0) hl));omega
theorem rH {w:List Nat}{i:Nat}{v:Nat}(h:w[i]?=some v):aL (.lst (aV w)) (.int (i:Int))= .ok (.int (v:Int)):=bb h
theorem gl {α:Type}{l:List α}{i:Nat}{d:α}(h:i<l.length):l[i]?=some (l.getD i d):=by
 rw[getD_eq_getElem?_getD,cz h];rfl
theorem oV {rs:List Int}{g:Int}{ts:List Tr}{p:Pl}{q:Q}(C:Ctx rs g ts)(I:Inv1 ts p)(hq:q∈ts.zipIdx) :
  cu K CL [av CL rs g,.lst (ts.map br),.lst (ts.map ao),.lst (p.map am),.int (q.2:Int)]= .ok (.int (there rs p q)):=by
 have G:=C.good hq;have hr:=I.rows q hq;have hz:=mem_zip.mp hq;have hk:q.2<p.length:=by rw[I.len];exact(cU hz).1
 unfold cu;refine(bu rfl).trans ?_;have e0:aC fm [av CL rs g,.lst (ts.map br),.lst (ts.map ao),.lst (p.map am),.int (q.2:Int)]=[some (av CL rs g),some (.lst (ts.map br)),some (.lst (ts.map ao)),some (.lst (p.map am)),some (.int (q.2:Int)),none]:=rfl;rw[e0];unfold de;have o:=bb (g:=am) (ce hk);have hit:=bb (g:=br) hz;have hip:=bb (g:=ao) hz;unfold there
 rcases List.eq_nil_or_concat (aj p q.2) with e|⟨r,m,e⟩
 ·rw[e]at o ⊢;have e1:Bd (am [])= .ok false:=rfl;have e2:aL (br q.1) (.int 2)= .ok (.int q.1.2.2):=qj;simp only[aJ,o,e1,hit,e2];rfl
 ·rw[List.concat_eq_append]at e;rw[e]at o ⊢;rw[List.getLast?_concat];dsimp only;have e1:Bd (am (r ++ [m]))= .ok true:=by
   unfold am;rw[nz,map_append];cases r <;> rfl
  have e2:aL (am (r ++ [m])) (.int (-1))= .ok (.int m):=by
   unfold am;rw[map_append];exact on (yZ _ _)
  have e3:bq [am (r ++ [m])]= .ok (.int ((r.length:Int)+1)):=by
   unfold am;rw[q_,length_map,length_append];rfl
  have e4:(r.length:Int)+1-1=(r.length:Int):=by omega
  rw[e,length_append]at hr;have hl:r.length<(aq q.1).length:=by simp at hr;omega
  have e5:aL (ao q.1) (.int (r.length:Int))= .ok (.int (((aq q.1).getD r.length 0:Nat):Int)):=rH (gl hl);have e6:=bb (g:=D.int) (gl (d:=0) (cP G _ (getD_mem (d:=0) hl)));have e7:(r ++ [m]).length-1=r.length:=by rw[length_append];simp
  simp only[aJ,o,e1,e2,e3,e4,hip,e5,Fz,d7,e6,e7]
theorem vM {rs:List Int}{g:Int}{ts:List Tr}{p:Pl}{q:Q}(C:Ctx rs g ts)(I:Inv1 ts p)(hq:q∈bp ts p) :
  b_ K CL [av CL rs g,.lst (ts.map br),.lst (ts.map ao),.lst (p.map am),.int (q.2:Int)]= .ok (.int (ci rs g ts p q)):=by
 obtain⟨hq,hgo⟩:=mem_filter.mp hq;have hl:(aj p q.2).length<(aq q.1).length:=of_decide_eq_true hgo;have G:=C.good hq;have hz:=mem_zip.mp hq;have hk:q.2<p.length:=by rw[I.len];exact(cU hz).1
 have hst:=uu (ts:=ts) hl;have hsl:ba p q<rs.length:=cP G _ (mem_of_getElem? hst);refine cj (qV (K:=K) (CL:=CL) (s:=ba p q) I (C.rows I) C.few) fun l el l5 ml=>?_;unfold b_;refine(bu rfl).trans ?_;have e0:aC cK [av CL rs g,.lst (ts.map br),.lst (ts.map ao),.lst (p.map am),.int (q.2:Int)]=[some (av CL rs g),some (.lst (ts.map br)),some (.lst (ts.map ao)),some (.lst (p.map am)),some (.int (q.2:Int)),none,none,none]:=rfl;rw[e0];unfold cJ;have hix:=bb (g:=am) (ce hk);have hip:=bb (g:=ao) hz;have e3:bq [am (aj p q.2)]= .ok (.int ((aj p q.2).length:Int)):=dw;have e5:aL (ao q.1) (.int ((aj p q.2).length:Int))= .ok (.int (ba p q:Int)):=rH hst;have e6:=bb (g:=D.int) (gl (d:=0) hsl);have e7:rs.getD (ba p q) 0+g=apart rs g (ba p q):=rfl;have e8:=oV (K:=K) (CL:=CL) C I hq;have hll:l.length≤100000:=by omega
 simp only[aJ,hix,hip,e3,e5,Fz,Jo,d7,kx,e6,e7];rw[bf (xs:=l) (c:=aQ) (g:=fun t=>.int (t.headD 0+apart rs g (ba p q))) (by simp only[aJ,el]) hll (fun t ht=>⟨_,rfl,?_⟩)]
 ·have e9:(l.map fun t=>D.int (t.headD 0+apart rs g (ba p q)))=(l.map fun t=>t.headD 0+apart rs g (ba p q)).map D.int:=by rw[map_map];rfl
  have e10:aZ (.lst [.int (there rs p q)]) (.lst ((l.map fun t=>t.headD 0+apart rs g (ba p q)).map D.int))= .ok (.lst ((there rs p q::l.map fun t=>t.headD 0+apart rs g (ba p q)).map D.int)):=
   om (du (by rw[length_map,length_map];simp;omega))
  rw[e9];simp only[aJ,e8,e10];rw[tV,bj,tw];congr 2;have hne:(there rs p q::l.map fun t=>t.headD 0+apart rs g (ba p q))≠[]:=fun z=>by cases z
  obtain⟨a1,a2⟩:=jT hne;have tn:=Bc C I hq;unfold ci free;obtain⟨⟨b1,b2⟩,b3⟩:=eI ((cc ts p (ba p q)).map fun e=>e.1+apart rs g (ba p q)) 0;have l1:j0 (there rs p q::l.map fun t=>t.headD 0+apart rs g (ba p q))≤max (there rs p q) (uJ 0 ((cc ts p (ba p q)).map fun e=>e.1+apart rs g (ba p q))):=by
   rcases mem_cons.mp a1 with h|h
   ·omega
   ·refine cps fun PP kP=>?_;obtain⟨t,ht,e⟩:=mem_map.mp h;obtain⟨u,hu,rfl⟩:=mem_map.mp ((ml t).mp ht);refine kP ?_;clear kP PP;have:=b2 _ (mem_map.mpr ⟨u,hu,rfl⟩);have e':u.1+apart rs g (ba p q)=j0 (there rs p q::l.map fun t=>t.headD 0+apart rs g (ba p q)):=e;omega
  have l2:uJ 0 ((cc ts p (ba p q)).map fun e=>e.1+apart rs g (ba p q))≤j0 (there rs p q::l.map fun t=>t.headD 0+apart rs g (ba p q)):=by
   have c1:=a2 (there rs p q) (mem_cons_self ..)
   rcases b3 with h|h
   ·omega
   ·obtain⟨u,hu,e⟩:=mem_map.mp h;have:=a2 (u.1+apart rs g (ba p q)) (cR (mem_map.mpr ⟨[u.1,(u.2:Int)],(ml _).mpr (mem_map.mpr ⟨u,hu,rfl⟩),rfl⟩));omega
  have c1:=a2 (there rs p q) (mem_cons_self ..);omega
 ·obtain⟨u,hu,rfl⟩:=mem_map.mp ((ml t).mp ht);have ec:aL (aQ [u.1,(u.2:Int)]) (.int 0)= .ok (.int u.1):=qi;have ecap:∀(a b c d e f:Option D),dn [none,some 6] [a,b,c,d,e,f,some (.int (apart rs g (ba p q))),none]=[none,some (.int (apart rs g (ba p q)))]:=fun _ _ _ _ _ _=>rfl;rw[ecap];simp only[aJ,ec];rfl
end
section
variable{K:W.Frag}{CL:Addr}
theorem jA {rs:List Int}{g:Int}{ts:List Tr}{p:Pl}(C:Ctx rs g ts)(I:Inv1 ts p) :
  bT K CL [av CL rs g,.lst (ts.map br),.lst (ts.map ao),.lst (p.map am)]= .ok (.lst ((bp ts p).map fun q=>aQ (f2 rs g ts p q))):=by
 unfold bT;refine(bu rfl).trans ?_;have e0:aC ck [av CL rs g,.lst (ts.map br),.lst (ts.map ao),.lst (p.map am)]=[some (av CL rs g),some (.lst (ts.map br)),some (.lst (ts.map ao)),some (.lst (p.map am)),none]:=rfl;rw[e0];unfold df;have hf:=C.few;simp only[aJ];rw[jk (xs:=ts.zipIdx) (c:=fun q=>.tup [.int (q.2:Int),ao q.1]) (p:=js p) (g:=fun q=>.int (q.2:Int)) (by simp only[aJ,eA]) (by rw[length_zipIdx];omega) (fun q hq=>(gW _ rfl ?_ (fun _=>rfl)))]
 ·simp only[aJ];rw[bf (xs:=bp ts p) (c:=fun q=>.int (q.2:Int)) (g:=fun q=>aQ (f2 rs g ts p q)) rfl (by have:=length_filter_le (js p) ts.zipIdx;rw[length_zipIdx]at this;unfold bp;omega) (fun q hq=>⟨_,rfl,?_⟩)]
  ·simp only[aJ]
  ·have ec:∀o:Option D,dn [none,some 0,some 1,some 2,some 3] [some (av CL rs g),some (.lst (ts.map br)),some (.lst (ts.map ao)),some (.lst (p.map am)),o]=[none,some (av CL rs g),some (.lst (ts.map br)),some (.lst (ts.map ao)),some (.lst (p.map am))]:=fun _=>rfl;rw[ec];simp only[aJ,vM (K:=K) (CL:=CL) C I hq];rfl
 ·have hk:q.2<p.length:=by rw[I.len];exact(cU (mem_zip.mp hq)).1
  have hix:=bb (g:=am) (ce hk);have e3:bq [am (aj p q.2)]= .ok (.int ((aj p q.2).length:Int)):=dw;have e4:bq [ao q.1]= .ok (.int ((aq q.1).length:Int)):=dw;have e5:decide (((aj p q.2).length:Int)<((aq q.1).length:Int))=js p q:=by
   unfold js;by_cases h:(aj p q.2).length<(aq q.1).length
   ·rw[decide_eq_true h,decide_eq_true (by omega)]
   ·rw[decide_eq_false h,decide_eq_false (by omega)]
  have ec:dn [none,none,some 3] [some (av CL rs g),some (.lst (ts.map br)),some (.lst (ts.map ao)),some (.lst (p.map am)),none]=[none,none,some (.lst (p.map am))]:=rfl;rw[ec];simp only[aJ,hix,e3,e4,e5]
theorem wX {rs:List Int}{g:Int}{ts:List Tr}{p:Pl}{k:Nat}(C:Ctx rs g ts)(I:Inv1 ts p)(hk:k<p.length):(aj p k).length≤1000:=C.rows I _ (mem_of_getElem? (ce hk))
noncomputable def p0 (ts:List Tr):Pl:=ts.map fun _=>[]
theorem ph {ts:List Tr}{k:Nat}:aj (p0 ts) k=[]:=by
 unfold aj p0;rw[getD_eq_getElem?_getD,getElem?_map];cases ts[k]? <;> rfl
theorem l7 {ts:List Tr}:Inv1 ts (p0 ts):=⟨by unfold p0;rw[length_map],fun q _=>by rw[ph];exact zero_le _,fun r hr m hm=>by
 unfold p0 at hr;obtain⟨_,_,rfl⟩:=mem_map.mp hr;cases hm⟩
theorem sv:∀{ts:List Tr},((p0 ts).map List.length).sum=0:=by
 intro l_
 induction l_ with
 |nil=>
  exact rfl
 |cons _ ts ihh=>
  show (0::(p0 ts).map List.length).sum=0;rw[sum_cons,ihh]
theorem Ag {ts:List Tr}{α:Type}{f:α→D}:(ts.map fun _=>D.lst [])=(p0 ts).map am:=by
 unfold p0;rw[map_map];rfl
theorem rj {rs:List Int}{g:Int}{ts:List Tr}(C:Ctx rs g ts):dB K CL [av CL rs g,.lst (ts.map br)]= .ok (.lst ((run rs g ts 26 (p0 ts)).map am)):=by
 have hf:=C.few;have ho:=C.one;have hr5:=C.ln.few;unfold dB;refine(bu rfl).trans ?_;have e0:aC eT [av CL rs g,.lst (ts.map br)]=[some (av CL rs g),some (.lst (ts.map br)),none,none,none,none]:=rfl;rw[e0];unfold eR;have e1:dC K CL [av CL rs g,.lst (ts.map br)]= .ok (.lst (ts.map ao)):=nR C.tr (by omega) ho hf;simp only[aJ,e1];rw[bf (xs:=ts) (c:=ao) (g:=fun _=>D.lst []) rfl (by omega) (fun t ht=>⟨_,rfl,by simp only[aJ]⟩),Ag (α:=Nat) (f:=fun _=>.non)];have lf:∀p:Pl,cC 1 (.lst ((bp ts p).map fun q=>aQ (f2 rs g ts p q)))=true:=fun p=>by
  have:=jS (l:=(bp ts p).map fun q=>f2 rs g ts p q);rw[map_map]at this;exact this
 simp only[aJ,jA (K:=K) (CL:=CL) C l7,lf];refine jL (fun n ρ=>∃(p:Pl) (o5:Option D),Inv1 ts p∧n+(p.map List.length).sum=26∧run rs g ts n p=run rs g ts 26 (p0 ts)∧ρ=[some (av CL rs g),some (.lst (ts.map br)),some (.lst (ts.map ao)),some (.lst (p.map am)),some (.lst ((bp ts p).map fun q=>aQ (f2 rs g ts p q))),o5])
  (fun ρ=>∃o4 o5,ρ=[some (av CL rs g),some (.lst (ts.map br)),some (.lst (ts.map ao)),some (.lst ((run rs g ts 26 (p0 ts)).map am)),o4,o5]) 26 (by decide) ⟨p0 ts,none,l7,by rw[sv],rfl,rfl⟩ (fun n ρ ⟨p,o5,I,hn,hR,e⟩=>?_) (fun ρ' ⟨o4,o5,e⟩=>?_)
 ·subst e;cases hc:bp ts p with
  |nil=>
   left;refine⟨rfl,some (.lst []),o5,?_⟩;rw[←hR,lL hc];rfl
  |cons q qs=>
   right;have hs:=vP I C.tr hr5 hf;obtain⟨m,rfl⟩:∃m,n=m+1:=⟨n-1,by omega⟩;refine⟨rfl,m,?_⟩;have hm:bI (f2 rs g ts p) q qs∈bp ts p:=by rw[hc];exact lG _ _ _
   generalize hu:bI (f2 rs g ts p) q qs=u at hm;have I':=lv (rs:=rs) (g:=g) I hm;have hz:=mem_zip.mp (mem_filter.mp hm).1;have hk:u.2<p.length:=by rw[I.len];exact(cU hz).1
   have e2:hV [.lst ((q::qs).map fun q=>aQ (f2 rs g ts p q))]= .ok (aQ (f2 rs g ts p u)):=by
    have h1:=ww (t:=f2 rs g ts p q) (ts:=qs.map (f2 rs g ts p));rw[p_,hu]at h1;have e:((q::qs).map fun q=>aQ (f2 rs g ts p q))=(f2 rs g ts p q::qs.map (f2 rs g ts p)).map aQ:=by rw[map_cons,map_cons,map_map];rfl
    rw[e];exact h1
   have e3:aL (aQ (f2 rs g ts p u)) (.int 1)= .ok (.int (u.2:Int)):=zn;have e4:aL (aQ (f2 rs g ts p u)) (.int 0)= .ok (.int (ci rs g ts p u)):=qi;refine⟨[some (av CL rs g),some (.lst (ts.map br)),some (.lst (ts.map ao)),some (.lst ((step rs g ts p u).map am)),some (.lst ((bp ts (step rs g ts p u)).map fun q=>aQ (f2 rs g ts (step rs g ts p u) q))),some (aQ (f2 rs g ts p u))],rfl,?_,step rs g ts p u,_,I',?_,?_,rfl⟩
   ·simp only[aJ,e2];rw[wl (m:=u.2) (l:=p.map am) (row:=(aj p u.2).map D.int) (d:=.int (ci rs g ts p u)) rfl (by simp only[aJ,e3]) (by simp only[aJ,e4]) (by rw[getElem?_map,ce hk];rfl) (by rw[length_map];have:=wX C I hk;omega)];have e5:(p.map am).set u.2 (.lst ((aj p u.2).map D.int ++ [.int (ci rs g ts p u)]))=(step rs g ts p u).map am:=by
     unfold step;rw[map_set];unfold am;rw[map_append];rfl
    simp only[aJ,e5,jA (K:=K) (CL:=CL) C I',lf]
   ·unfold step;rw[nO hk];omega
   ·rw[←hR,lM hc,hu]
 ·subst e;rfl
end
section
variable{K:W.Frag}{CL:Addr}
noncomputable def fB (rs:List Int)(g:Int)(ts:List Tr)(p:Pl):List Int:=(List.range rs.length).map (free rs g ts p)
noncomputable def cD (rs:List Int)(ts:List Tr)(p:Pl):List Int:=ts.zipIdx.map (there rs p)
theorem Cq {rs:List Int}{g:Int}{ts:List Tr}{s:Nat}:free rs g ts (p0 ts) s=0:=by
 have e:cc ts (p0 ts) s=[]:=by
  unfold cc;rw[List.flatMap_eq_nil_iff];intro q _;rw[ph];unfold aN;rw[List.zip_nil_right];rfl
 unfold free;rw[e];rfl
theorem zv {rs:List Int}{g:Int}{ts:List Tr}:fB rs g ts (p0 ts)=rs.map fun _=>0:=by
 unfold fB;apply ext_getElem
 ·simp
 ·intro i h1 h2;rw[getElem_map,getElem_map,Cq]
theorem yC {rs:List Int}{ts:List Tr}:cD rs ts (p0 ts)=ts.map fun t=>t.2.2:=by
 unfold cD;have e:there rs (p0 ts)=fun q:Q=>q.1.2.2:=by
  funext q;unfold there;rw[ph];rfl
 rw[e];have:ts.zipIdx.map Prod.fst=ts:=List.zipIdx_map_fst ..
 conv=>rhs;rw[←this,map_map]
 rfl
theorem uX {rs:List Int}{g:Int}{ts:List Tr}{p:Pl}{q:Q}(C:Ctx rs g ts)(I:Inv1 ts p)(hq:q∈bp ts p)(hs:ba p q<rs.length):fB rs g ts (step rs g ts p q)=(fB rs g ts p).set (ba p q) (ci rs g ts p q+rs.getD (ba p q) 0+g):=by
 have ha:0≤apart rs g (ba p q):=by
  have:=iS C.ln hs;have:=C.ln.gap;unfold apart;omega
 unfold fB;apply ext_getElem
 ·simp
 ·intro i h1 h2;rw[getElem_map,getElem_range,List.getElem_set,xK I hq ha];by_cases e:i=ba p q
  ·rw[if_pos e,if_pos e.symm,e];unfold apart;omega
  ·rw[if_neg e,if_neg fun z=>e z.symm,getElem_map,getElem_range]
theorem mU {rs:List Int}{g:Int}{ts:List Tr}{p:Pl}{q:Q}(I:Inv1 ts p)(hq:q∈bp ts p):cD rs ts (step rs g ts p q)=(cD rs ts p).set q.2 (ci rs g ts p q+rs.getD (ba p q) 0):=by
 unfold cD;apply ext_getElem
 ·simp
 ·intro i h1 h2;have hi:i<ts.length:=by simpa using h1
  have hz:(ts[i],0+i)∈ts.zipIdx:=mem_zip.mpr (by rw[zero_add];exact cz hi);rw[getElem_map,List.getElem_zipIdx,List.getElem_set,vR I hq hz];by_cases e:i=q.2
  ·rw[if_pos (by show 0+i=q.2;omega),if_pos e.symm]
  ·rw[if_neg (by show ¬0+i=q.2;omega),if_neg fun z=>e z.symm,getElem_map,List.getElem_zipIdx]
theorem yB {rs:List Int}{ts:List Tr}{p:Pl}{q:Q}(hq:q∈ts.zipIdx):(cD rs ts p)[q.2]?=some (there rs p q):=by
 have hz:=mem_zip.mp hq;unfold cD;rw[getElem?_map,List.getElem?_zipIdx,hz];show some (there rs p (q.1,0+q.2))=_;rw[zero_add]
theorem zu {rs:List Int}{g:Int}{ts:List Tr}{p:Pl}{s:Nat}(h:s<rs.length):(fB rs g ts p)[s]?=some (free rs g ts p s):=by
 unfold fB;rw[getElem?_map,List.getElem?_range h];rfl
noncomputable abbrev mh (rs:List Int)(g:Int)(ts:List Tr)(p:Pl)(o6 o7 o8 o9:Option D):DS:=
 [some (.lst (rs.map D.int)),some (.int g),some (.lst (ts.map br)),some (.lst (p.map am)),some (.lst ((fB rs g ts p).map D.int)),some (.lst ((cD rs ts p).map D.int)),o6,o7,o8,o9]
theorem m6 {rs:List Int}{g:Int}{ts:List Tr}(C:Ctx rs g ts):bO K CL [.lst (rs.map D.int),.int g,.lst (ts.map br)]= .ok (.lst ((run rs g ts 26 (p0 ts)).map am)):=by
 have hf:=C.few;have ho:=C.one;have hr5:=C.ln.few;unfold bO;refine(bu rfl).trans ?_;have e0:aC bd [.lst (rs.map D.int),.int g,.lst (ts.map br)]=[some (.lst (rs.map D.int)),some (.int g),some (.lst (ts.map br)),none,none,none,none,none,none,none]:=rfl;rw[e0];unfold cf;simp only[aJ];rw[bf (xs:=ts) (c:=br) (g:=fun _=>D.lst []) rfl (by omega) (fun t ht=>⟨_,rfl,by simp only[aJ]⟩),Ag (α:=Nat) (f:=fun _=>.non)];simp only[aJ];rw[bf (xs:=rs) (c:=D.int) (g:=fun _=>D.int 0) rfl (by omega) (fun t ht=>⟨_,rfl,by simp only[aJ]⟩)];simp only[aJ];rw[bf (xs:=ts) (c:=br) (g:=fun t=>D.int t.2.2) rfl (by omega) (fun t ht=>⟨_,rfl,(qj:aL (br t) (.int 2)= .ok (.int t.2.2))⟩)];have z1:(rs.map fun _=>D.int 0)=(fB rs g ts (p0 ts)).map D.int:=by rw[zv,map_map];rfl
 have z2:(ts.map fun t=>D.int t.2.2)=(cD rs ts (p0 ts)).map D.int:=by rw[yC,map_map];rfl
 simp only[aJ,z1,z2];refine jL (fun n ρ=>∃(p:Pl) (y v s w:Option D),Inv1 ts p∧n+(p.map List.length).sum=26∧run rs g ts n p=run rs g ts 26 (p0 ts)∧ρ=mh rs g ts p y v s w)
  (fun ρ=>∃o4 o5 y v s w,ρ=[some (.lst (rs.map D.int)),some (.int g),some (.lst (ts.map br)),some (.lst ((run rs g ts 26 (p0 ts)).map am)),o4,o5,y,v,s,w]) 26 (by decide) ⟨p0 ts,none,none,none,none,l7,by rw[sv],rfl,rfl⟩ (fun n ρ ⟨p,y,v,s,w,I,hn,hR,e⟩=>?_) (fun W ⟨o4,o5,y,v,s,w,e⟩=>?_)
 ·subst e;have hway:∀q∈ts.zipIdx,bH K CL [br q.1]= .ok (ao q.1):=fun q r=>x8 (C.good r) (by omega);have hrow:∀q∈ts.zipIdx,aL (.lst (p.map am)) (.int (q.2:Int))= .ok (am (aj p q.2)):=fun q r=>bb (g:=am) (ce (by rw[I.len];exact(cU (mem_zip.mp r)).1));have htr:∀q∈ts.zipIdx,aL (.lst (ts.map br)) (.int (q.2:Int))= .ok (br q.1):=fun q r=>bb (g:=br) (mem_zip.mp r);have hlr:∀q:Q,bq [am (aj p q.2)]= .ok (.int ((aj p q.2).length:Int)):=fun q=>dw;have hlp:∀q:Q,bq [ao q.1]= .ok (.int ((aq q.1).length:Int)):=fun q=>dw;have hrg:sd [.int (ts.length:Int)]= .ok (ts.zipIdx.map fun q=>D.int (q.2:Int)):=by rw[eV (by omega),yr]
  have hgo:∀q:Q,decide (((aj p q.2).length:Int)<((aq q.1).length:Int))=js p q:=fun q=>by
   unfold js;by_cases h:(aj p q.2).length<(aq q.1).length
   ·rw[decide_eq_true h,decide_eq_true (by omega)]
   ·rw[decide_eq_false h,decide_eq_false (by omega)]
  have x:(f8 (ae (c1 (bm (sR1 (pC (c1 (ab 2) bq) pN)) [none,some 3,some 2] (bR 0) yes (ae (c1 (ae (ab 1) (ab 0) aL) bq) (c1 (bL (pC (ae (ab 2) (ab 0) aL) pN) (bH K CL)) bq) ux)) pT) (kI 0) wv)) (mh rs g ts p y v s w)= .ok (!(bp ts p).isEmpty):=by
   simp only[aJ];rw[bf (xs:=ts.zipIdx) (c:=fun q=>D.int (q.2:Int)) (g:=fun q=>D.int (((aj p q.2).length:Int)-((aq q.1).length:Int))) (by simp only[aJ,hrg]) (by rw[length_zipIdx];omega) (fun q r=>⟨_,rfl,?_⟩)]
   ·have z3:(ts.zipIdx.map fun q=>D.int (((aj p q.2).length:Int)-((aq q.1).length:Int)))=(ts.zipIdx.map fun q=>((aj p q.2).length:Int)-((aq q.1).length:Int)).map D.int:=by rw[map_map];rfl
    rw[z3];have hne:(ts.zipIdx.map fun q=>((aj p q.2).length:Int)-((aq q.1).length:Int))≠[]:=fun z=>by
     have:=congrArg List.length z;rw[length_map,length_zipIdx]at this;simp at this;rw[this]at ho;simp at ho
    obtain⟨m1,m2⟩:=mj hne;have z4:pT [.lst ((ts.zipIdx.map fun q=>((aj p q.2).length:Int)-((aq q.1).length:Int)).map D.int)]= .ok (.int (mi (ts.zipIdx.map fun q=>((aj p q.2).length:Int)-((aq q.1).length:Int)))):=by
     revert hne
     cases (ts.zipIdx.map fun q=>((aj p q.2).length:Int)-((aq q.1).length:Int)) with
     |nil=>intro h;exact absurd rfl h
     |cons a l=>intro _;exact Aa
    simp only[aJ,z4];refine congrArg Res.ok ?_;cases A:bp ts p with
    |nil=>
     show decide (_<(0:Int))=false;refine decide_eq_false fun h=>?_;obtain⟨q,r,e⟩:=mem_map.mp m1;have:q∈bp ts p:=mem_filter.mpr ⟨r,decide_eq_true (by omega)⟩;rw[A]at this;cases this
    |cons q B=>
     show decide (_<(0:Int))=true;have r:q∈bp ts p:=by rw[A];exact mem_cons_self ..
     obtain⟨h1,h2⟩:=mem_filter.mp r;have h3:(aj p q.2).length<(aq q.1).length:=of_decide_eq_true h2;have:=m2 _ (mem_map.mpr ⟨q,h1,rfl⟩);exact decide_eq_true (by omega)
   ·have ec:dn [none,some 3,some 2] (mh rs g ts p y v s w)=[none,some (.lst (p.map am)),some (.lst (ts.map br))]:=rfl;rw[ec];simp only[aJ,hrow q r,htr q r,hway q r,hlr,hlp]
  cases A:bp ts p with
  |nil=>
   left;rw[x,A];refine⟨rfl,some (.lst ((fB rs g ts p).map D.int)),some (.lst ((cD rs ts p).map D.int)),y,v,s,w,?_⟩;rw[←hR,lL A]
  |cons q B=>
   right;have hs:=vP I C.tr hr5 hf;obtain⟨m,rfl⟩:∃m,n=m+1:=⟨n-1,by omega⟩;rw[x,A];refine⟨rfl,m,?_⟩;have hm:bI (f2 rs g ts p) q B∈bp ts p:=by rw[A];exact lG _ _ _
   have hp23:bI (f3 rs g ts p) q B=bI (f2 rs g ts p) q B:=by
    have hpw:(bp ts p).Pairwise fun a b=>a.2≠b.2:=iO;rw[A,pairwise_cons]at hpw;exact Gq B q (fun u hu z=>hpw.1 u hu z.symm) hpw.2
   generalize hu:bI (f2 rs g ts p) q B=u at hm hp23;have I':=lv (rs:=rs) (g:=g) I hm;have hmz:=(mem_filter.mp hm).1;have hz:=mem_zip.mp hmz;have hk:u.2<p.length:=by rw[I.len];exact(cU hz).1
   have stl:∀q∈bp ts p,(aq q.1)[(aj p q.2).length]?=some (ba p q)∧ba p q<rs.length:=fun q r=>by
    obtain⟨h1,h2⟩:=mem_filter.mp r;have h3:=uu (ts:=ts) (of_decide_eq_true h2);exact⟨h3,cP (C.good h1) _ (mem_of_getElem? h3)⟩
   have e2:hV [.lst ((bp ts p).map fun q=>aQ (f3 rs g ts p q))]= .ok (aQ (f3 rs g ts p u)):=by
    have h1:=ww (t:=f3 rs g ts p q) (ts:=B.map (f3 rs g ts p));rw[p_,hp23]at h1;have e:((q::B).map fun q=>aQ (f3 rs g ts p q))=(f3 rs g ts p q::B.map (f3 rs g ts p)).map aQ:=by rw[map_cons,map_cons,map_map];rfl
    rw[A,e];exact h1
   have t0:aL (aQ (f3 rs g ts p u)) (.int 0)= .ok (.int (ci rs g ts p u)):=qi;have t1:aL (aQ (f3 rs g ts p u)) (.int 1)= .ok (.int (u.2:Int)):=zn;have t2:aL (aQ (f3 rs g ts p u)) (.int 2)= .ok (.int (ba p u:Int)):=qj
   suffices h:∃W,(ax (aT 6 (dQ aH (gJ pN)))
  (ax (dP (sR1 (pC (c1 (ab 2) bq) pN)) (bR 7) (i3 (f8 (ae (c1 (ae (ab 3) (ab 7) aL) bq) (c1 (bL (pC (ae (ab 2) (ab 7) aL) pN) (bH K CL)) bq) wv)) (ax (aT 8 (oQ 0 (ae (bL (pC (ae (ab 2) (ab 7) aL) pN) (bH K CL)) (c1 (ae (ab 3) (ab 7) aL) bq) aL)))
  (nW 6 (oQ 0 (f7 (pC (bL (pC (ae (ab 5) (ab 7) aL) (pC (ae (ab 4) (ab 8) aL) pN)) qw) (pC (ab 7) (pC (ab 8) pN))))))) nxt))
  (ax (aT 9 (oQ 0 (c1 (ab 6) hV)))
  (ax (sf 3 (ae (ab 9) (kI 1) aL) (dQ aH (ae (ab 9) (kI 0) aL)))
  (ax (pj 5 (ae (ab 9) (kI 1) aL) (dQ aH (ae (ae (ab 9) (kI 0) aL) (ae (ab 0) (ae (ab 9) (kI 2) aL) aL) aZ)))
  (pj 4 (ae (ab 9) (kI 2) aL) (oQ 0 (ae (ae (ab 5) (ae (ab 9) (kI 1) aL) aL) (ab 1) aZ)))))))) (mh rs g ts p y v s w)= .nx W∧∃y v s w,W=mh rs g ts (step rs g ts p u) y v s w by
    obtain⟨W,h1,a6,a7,a8,a9,h2⟩:=h;refine⟨W,rfl,h1,step rs g ts p u,a6,a7,a8,a9,I',?_,?_,h2⟩
    ·unfold step;rw[nO hk];omega
    ·rw[←hR,lM A,hu]
   simp only[aJ,hrg];refine qz (fun pre ρ=>∃v s,ρ=mh rs g ts p (some (.lst ((pre.filter (js p)).map fun q=>aQ (f3 rs g ts p q)))) v s w) ⟨_,_,rfl⟩ (fun pre q post exs ρ hZ197=>?_) (fun W hZ198=>?_)
   ·obtain⟨v,s,e⟩:=hZ197;subst e;refine⟨_,rfl,?_⟩;have r:q∈ts.zipIdx:=by rw[exs];simp
    have hpl:pre.length≤5:=by
     have:=congrArg List.length exs;rw[length_zipIdx,length_append]at this;omega
    simp only[aJ,hrow q r,htr q r,hway q r,hlr,hlp,hgo];cases hgq:js p q with
    |true=>
     have hqc:q∈bp ts p:=mem_filter.mpr ⟨r,hgq⟩;obtain⟨s1,s2⟩:=stl q hqc;have x1:aL (ao q.1) (.int ((aj p q.2).length:Int))= .ok (.int (ba p q:Int)):=rH s1;simp only[aJ,x1,lh];have x2:=bb (g:=D.int) (yB (rs:=rs) (p:=p) r);have x3:=bb (g:=D.int) (zu (g:=g) (ts:=ts) (p:=p) s2);have hfl:=length_filter_le (js p) pre;refine⟨_,qZ (d:=aQ (f3 rs g ts p q)) rfl ?_ (by rw[length_map];omega),some (.int (q.2:Int)),some (.int (ba p q:Int)),?_⟩
     ·have x4:cC 0 (.tup [.int (max (there rs p q) (free rs g ts p (ba p q))),.int (q.2:Int),.int (ba p q:Int)])=true:=tu (t:=f3 rs g ts p q);simp only[aJ,x2,x3,x4];rfl
     ·rw[filter_append,filter_cons_of_pos hgq,filter_nil,map_append];rfl
    |false=>
     simp only[aJ];refine⟨_,rfl,some (.int (q.2:Int)),s,?_⟩;rw[filter_append,filter_cons_of_neg (by rw[hgq];exact Bool.false_ne_true),filter_nil,append_nil]
   ·refine cps fun PP kP=>?_;obtain⟨v,s,e⟩:=hZ198;subst e;have e2':hV [.lst ((ts.zipIdx.filter (js p)).map fun q=>aQ (f3 rs g ts p q))]= .ok (aQ (f3 rs g ts p u)):=e2;have x4:cC 0 (aQ (f3 rs g ts p u))=true:=tu (t:=f3 rs g ts p u);obtain⟨s1,s2⟩:=stl u hm;refine kP ?_;clear kP PP;have y0:aL (.lst (rs.map D.int)) (.int (ba p u:Int))= .ok (.int (rs.getD (ba p u) 0)):=bb (g:=D.int) (gl s2);have lt:(cD rs ts p).length=ts.length:=by unfold cD;rw[length_map,length_zipIdx]
    have lfr:(fB rs g ts p).length=rs.length:=by unfold fB;rw[length_map,length_range]
    have hk2:u.2<ts.length:=by rw[←I.len];exact hk
    simp only[aJ,e2',x4];rw[wl (m:=u.2) (l:=p.map am) (row:=(aj p u.2).map D.int) (d:=.int (ci rs g ts p u)) rfl (by simp only[aJ,t1]) (by simp only[aJ,t0]) (by rw[getElem?_map,ce hk];rfl) (by rw[length_map];have:=wX C I hk;omega)];have e5:(p.map am).set u.2 (.lst ((aj p u.2).map D.int ++ [.int (ci rs g ts p u)]))=(step rs g ts p u).map am:=by
     unfold step;rw[map_set];unfold am;rw[map_append];rfl
    simp only[aJ,e5];rw[rg (m:=u.2) (l:=(cD rs ts p).map D.int) (d:=.int (ci rs g ts p u+rs.getD (ba p u) 0)) rfl (by simp only[aJ,t0,t2,y0]) (by simp only[aJ,t1]) (by rw[length_map,lt];exact hk2)];have e6:((cD rs ts p).map D.int).set u.2 (.int (ci rs g ts p u+rs.getD (ba p u) 0))=(cD rs ts (step rs g ts p u)).map D.int:=by
     rw[mU I hm,map_set]
    simp only[aJ,e6];have y1:aL (.lst ((cD rs ts (step rs g ts p u)).map D.int)) (.int (u.2:Int))= .ok (.int (ci rs g ts p u+rs.getD (ba p u) 0)):=bb (g:=D.int) (by rw[mU I hm,getElem?_set,if_pos rfl,if_pos (by rw[lt];exact hk2)]);rw[rg (m:=ba p u) (l:=(fB rs g ts p).map D.int) (d:=.int (ci rs g ts p u+rs.getD (ba p u) 0+g)) rfl (by simp only[aJ,t1,y1,lh]) (by simp only[aJ,t2]) (by rw[length_map,lfr];exact s2)];have e7:((fB rs g ts p).map D.int).set (ba p u) (.int (ci rs g ts p u+rs.getD (ba p u) 0+g))=(fB rs g ts (step rs g ts p u)).map D.int:=by
     rw[uX C I hm s2,map_set]
    simp only[aJ,e7];exact⟨_,rfl,_,_,_,_,rfl⟩
 ·subst e;rfl
end
noncomputable def inT (rs:List Int):Int→List (Nat×Int)→Bool
 |_,[]=>true
 |s,u::l=> !decide (u.2<s)&&inT rs (u.2+rs.getD u.1 0) l
noncomputable def sn (rs:List Int)(r:Int)(pre:List (Nat×Int)):Int:=pre.foldl (fun _ u=>u.2+rs.getD u.1 0) r
theorem sr {rs:List Int}{r:Int}{pre:List (Nat×Int)}{u:Nat×Int}:sn rs r (pre ++ [u])=u.2+rs.getD u.1 0:=by
 unfold sn;rw[foldl_append];rfl
theorem yi {rs:List Int}{r:Int}:∀(xs pre:List (Nat×Int)),fP (fun pre u=> !decide (u.2<sn rs r pre)) pre xs=inT rs (sn rs r pre) xs:=by
 intro l_
 induction l_ with
 |nil=>
  rintro _;exact rfl
 |cons u xs ihh=>
  rintro pre;show (!decide (u.2<sn rs r pre)&&fP (fun pre u=> !decide (u.2<sn rs r pre)) (pre ++ [u]) xs)=_;rw[ihh,sr];rfl
noncomputable def gw (T:Pl)(q:Q):List (Nat×Int):=(aq q.1).zip (aj T q.2)
noncomputable def kA (rs:List Int)(ts:List Tr)(T:Pl):Bool:=ts.zipIdx.all fun q=>inT rs q.1.2.2 (gw T q)
noncomputable def Ap (rs:List Int)(g:Int)(ts:List Tr)(T:Pl)(s:Nat):Prop:=∀e∈cc ts T s,∀e'∈cc ts T s,e.2≠e'.2→e.1+apart rs g s≤e'.1∨e'.1+apart rs g s≤e.1
theorem pair_mem {w:List Nat}{row:List Int}{s:Nat}{m:Int}:m∈aN w row s↔(s,m)∈w.zip row:=by
 unfold aN;rw[mem_map];constructor
 ·intro hZ36;obtain⟨q,hq,rfl⟩:=hZ36;obtain⟨h1,h2⟩:=mem_filter.mp hq;have e:q.1=s:=by simpa using h2
  rw[←e];exact h1
 ·intro h;exact⟨(s,m),mem_filter.mpr ⟨h,beq_self_eq_true s⟩,rfl⟩
theorem oY {α:Type}{R:α→α→Prop}:∀{l:List α},l.length≤1→l.Pairwise R
 | [],_=>.nil
 | [_],_=>List.pairwise_singleton ..
 |_::_::_,h=>by simp at h
theorem ent_pw {ts:List Tr}{T:Pl}{s:Nat}:(cc ts T s).Pairwise fun a b=>a.2≠b.2:=by
 unfold cc;rw[List.pairwise_flatMap];refine⟨fun q _=>oY (by rw[length_map];exact dZ cx),?_⟩;have h:(ts.zipIdx.filter fun _=>true).Pairwise fun a b=>a.2≠b.2:=iO;rw[List.filter_eq_self.mpr fun _ _=>rfl]at h;refine h.imp fun {a b} hab x hx y hy=>?_;refine cps fun PP kP=>?_;obtain⟨_,_,rfl⟩:=mem_map.mp hx;obtain⟨_,_,rfl⟩:=mem_map.mp hy;refine kP ?_;clear kP PP;exact hab
theorem Eo {α:Type}{R:α→α→Prop}:∀{l:List α},l.Pairwise R→∀x∈l,∀y∈l,x≠y→R x y∨R y x:=by
 intro l_
 induction l_ with
 |nil=>
  rintro _ _ h _ _ _;exact by cases h
 |cons a l ihh=>
  rintro hp x hx y hy hne;rw[pairwise_cons]at hp
  rcases mem_cons.mp hx with hx1|hx1
  ·rcases mem_cons.mp hy with hy1|hy1
   ·exact absurd (hx1.trans hy1.symm) hne
   ·rw[hx1];exact .inl (hp.1 y hy1)
  ·rcases mem_cons.mp hy with hy1|hy1
   ·rw[hy1];exact .inr (hp.1 x hx1)
   ·exact ihh hp.2 x hx1 y hy1 hne
theorem yX {α:Type}{R:α→α→Prop}(tr:∀a b c,R a b→R b c→R a c):∀{l:List α},(∀u∈l.zip l.tail,R u.1 u.2)→l.Pairwise R
 | [],_=>.nil
 | [_],_=>List.pairwise_singleton ..
 |a::b::l,h=>by
  have h1:R a b:=h (a,b) (by simp);have h2:=yX tr (l:=b::l) fun u hu=>h u (by
   show u∈(a,b)::(b::l).zip l;exact cR hu)
  rw[pairwise_cons];refine⟨fun c hc=>?_,h2⟩
  rcases mem_cons.mp hc with rfl|hc
  ·exact h1
  ·exact tr _ _ _ h1 ((pairwise_cons.mp h2).1 c hc)
theorem qO {α:Type}:∀{l:List α},l.Nodup→∀u∈l.zip l.tail,u.1∈l∧u.2∈l∧u.1≠u.2
 | [],_,u,hu=>by simp at hu
 | [_],_,u,hu=>by simp at hu
 |a::b::l,h,u,hu=>by
  rw[nodup_cons]at h;have hu:u∈(a,b)::(b::l).zip l:=hu
  rcases mem_cons.mp hu with rfl|hu
  ·exact⟨by simp,by simp,fun z=>h.1 (by show a∈b::l;rw[show a=b from z];simp)⟩
  ·obtain⟨h1,h2,h3⟩:=qO h.2 u hu;exact⟨cR h1,cR h2,h3⟩
theorem tT {a b:Int}{i j:Int}(h:HT.aK [b,j] [a,i]=false):a≤b:=by
 unfold HT.aK at h;by_cases e:b=a
 ·omega
 ·rw[if_neg e]at h;have:=of_decide_eq_false h;omega
noncomputable def oA (d:Int)(u:List Int×List Int):Bool:= !decide (u.2.headD 0<u.1.headD 0+d)
theorem Bw {rs:List Int}{g:Int}{ts:List Tr}{T:Pl}{s:Nat}{l:List (List Int)}(hd:1≤apart rs g s)(hm:∀t,t∈l↔t∈(cc ts T s).map fun e=>[e.1,(e.2:Int)])(hn:l.Nodup)(hs:∀u∈l.zip l.tail,HT.aK u.2 u.1=false) :
  (l.zip l.tail).all (oA (apart rs g s))=true↔Ap rs g ts T s:=by
 rw[all_eq_true];constructor
 ·intro h;have pw:=yX (R:=fun a b:List Int=>a.headD 0+apart rs g s≤b.headD 0) (fun a b c h1 h2=>by omega) (l:=l) fun u hu=>by
   have:=h u hu;unfold oA at this;rw[not_eq_true',decide_eq_false_iff_not]at this;omega
  intro e he w x hne;exact Eo pw [e.1,(e.2:Int)] ((hm _).mpr (mem_map.mpr ⟨e,he,rfl⟩)) [w.1,(w.2:Int)] ((hm _).mpr (mem_map.mpr ⟨w,x,rfl⟩)) fun z=>hne (by
   have:(e.2:Int)=(w.2:Int):=by
    injection z with _ z
    injection z
   omega)
 ·intro h u hu;refine cps fun PP kP=>?_;obtain⟨h1,h2,h3⟩:=qO hn u hu;obtain⟨e,he,e1⟩:=mem_map.mp ((hm _).mp h1);obtain⟨w,x,e2⟩:=mem_map.mp ((hm _).mp h2);refine kP ?_;clear kP PP;have hlx:=hs u hu;rw[←e1,←e2]at hlx;have hle:=tT hlx;have hidx:e.2≠w.2:=fun z=>by
   by_cases q:e=w
   ·rw[q]at e1;exact h3 (e1.symm.trans e2)
   ·rcases Eo ent_pw e he w x q with y|y
    ·exact y z
    ·exact y z.symm
  unfold oA;rw[←e1,←e2,not_eq_true',decide_eq_false_iff_not];show ¬w.1<e.1+apart rs g s
  rcases h e he w x hidx with y|y <;> omega
section
variable{K:W.Frag}{CL:Addr}
theorem lU {ts:List Tr}{p:Pl}{s:Nat}(hlen:p.length=ts.length)(hb:∀r∈p,r.length≤1000)(ht:ts.length≤5) :
  ∃l:List (List Int),aU K CL [.lst (ts.map ao),.lst (p.map am),.int s]= .ok (.lst (l.map aQ))∧l.length≤5∧(∀t,t∈l↔t∈(cc ts p s).map fun e=>[e.1,(e.2:Int)])∧l.Nodup∧(∀u∈l.zip l.tail,HT.aK u.2 u.1=false)∧b7 [.lst (((cc ts p s).map fun e=>[e.1,(e.2:Int)]).map aQ)]= .ok (.lst (l.map aQ)):=by
 have hnd:((cc ts p s).map fun e=>[e.1,(e.2:Int)]).Nodup:=pairwise_map.mpr (ent_pw.imp fun {a b} h z=>h (by
  have:(a.2:Int)=(b.2:Int):=by
   injection z with _ z
   injection z
  omega))
 refine uD (vO ((cc ts p s).map fun e=>[e.1,(e.2:Int)]) (by rw[length_map];exact le_trans nq ht) (fun t h=>by obtain⟨e,_,rfl⟩:=mem_map.mp h;exact fun z=>by cases z) hnd) fun l e hl5 hl hln hls=>?_;refine(HP l ?_ (by rw[hl5,length_map];exact le_trans nq ht) hl hln hls e);unfold aU;refine(bu rfl).trans ?_;have e0:aC eS [.lst (ts.map ao),.lst (p.map am),.int s]=[some (.lst (ts.map ao)),some (.lst (p.map am)),some (.int s),none,none,none,none,none]:=rfl;rw[e0];unfold da;simp only[aJ,eA];have one:∀q:Q,((aN (aq q.1) (aj p q.2) s).map fun m=>[m,(q.2:Int)]).length≤1:=fun q=>by rw[length_map];exact dZ cx
 refine fU (fun pre ρ=>∃o4 o5 o6 o7,ρ=[some (.lst (ts.map ao)),some (.lst (p.map am)),some (.int s),some (.lst ((pre.flatMap fun q:Q=>(aN (aq q.1) (aj p q.2) s).map fun m=>[m,(q.2:Int)]).map aQ)),o4,o5,o6,o7]) (zI none none none none rfl) (fun pre q post exs ρ hZ199=>?_) (fun ρ' hZ200=>?_)
 ·refine yO (hZ199) fun o4 o5 o6 o7 e=>?_;subst e;refine⟨_,rfl,?_⟩;have hq:q∈ts.zipIdx:=by rw[exs];simp
  have hpl:pre.length≤5:=by
   have:=congrArg List.length exs;rw[length_zipIdx,length_append]at this;omega
  have hk:q.2<p.length:=by rw[hlen];exact(cU (mem_zip.mp hq)).1
  have hix:=bb (g:=am) (ce hk);have hzp:pI [ao q.1,am (aj p q.2)]= .ok (((aq q.1).zip (aj p q.2)).map fun u=>.tup [.int (u.1:Int),.int u.2]):=lX;simp only[aJ,hix,hzp];have hfl:=oo (f:=fun q:Q=>(aN (aq q.1) (aj p q.2) s).map fun m=>[m,(q.2:Int)]) pre fun q _=>one q;have hrl:(aj p q.2).length≤1000:=hb _ (mem_of_getElem? (ce hk));refine jX (fun pr ρ=>∃o6 o7,ρ=[some (.lst (ts.map ao)),some (.lst (p.map am)),some (.int s),some (.lst (((pre.flatMap fun q:Q=>(aN (aq q.1) (aj p q.2) s).map fun m=>[m,(q.2:Int)]) ++ (pr.filter fun u=>u.1==s).map fun u=>[u.2,(q.2:Int)]).map aQ)),some (.int q.2),some (ao q.1),o6,o7]) ⟨_,_,by rw[filter_nil,map_nil,append_nil]⟩ (fun pr u po exs2 ρ hZ201=>?_) (fun ρ' hZ202=>?_)
  ·obtain⟨o6,o7,e⟩:=hZ201;subst e;refine⟨_,rfl,?_⟩;cases hu:u.1==s with
   |true=>
    simp only[aJ,nA,hu];have hpr:(pr.filter fun u=>u.1==s).length≤pr.length:=length_filter_le ..;have hpz:pr.length≤(aj p q.2).length:=by
     have:=congrArg List.length exs2;rw[length_zip,length_append]at this;omega
    refine(rF _ (qZ (d:=aQ [u.2,(q.2:Int)]) rfl (by simp only[aJ];rfl) (by rw[length_map,length_append,length_map];omega)) (some (.int u.1)) (some (.int u.2)) ?_);rw[filter_append,filter_cons_of_pos (by exact hu),filter_nil];simp only[map_append,map_cons,map_nil,append_assoc];rfl
   |false=>
    simp only[aJ,nA,hu];refine(rF _ rfl (some (.int u.1)) (some (.int u.2)) ?_);rw[filter_append,filter_cons_of_neg (by rw[hu];exact Bool.false_ne_true),filter_nil,append_nil]
  ·obtain⟨o6,o7,e⟩:=hZ202;refine(zI (some (.int q.2)) (some (ao q.1)) o6 o7 ?_);rw[e,flatMap_append,flatMap_singleton];unfold aN;rw[map_map];rfl
 ·refine yO (hZ200) fun o4 o5 o6 o7 e=>?_;subst e;have e1:(ts.zipIdx.flatMap fun q:Q=>(aN (aq q.1) (aj p q.2) s).map fun m=>[m,(q.2:Int)])=(cc ts p s).map fun e=>[e.1,(e.2:Int)]:=by
   unfold cc;rw[List.map_flatMap];congr 1;funext q;rw[map_map];rfl
  rw[e1];have e2:b7 [.lst (((cc ts p s).map fun e=>[e.1,(e.2:Int)]).map aQ)]= .ok (.lst (l.map aQ)):=e;have e3:cC 1 (.lst (l.map aQ))=true:=jS;simp only[aJ,e2,e3]
theorem s9 {ts:List Tr}{p:Pl}{s:Nat}(hlen:p.length=ts.length)(hb:∀r∈p,r.length≤1000)(ht:ts.length≤5) :
  ∃l:List (List Int),aU K CL [.lst (ts.map ao),.lst (p.map am),.int s]= .ok (.lst (l.map aQ))∧l.length≤5∧(∀t,t∈l↔t∈(cc ts p s).map fun e=>[e.1,(e.2:Int)])∧l.Nodup∧∀u∈l.zip l.tail,HT.aK u.2 u.1=false:=let ⟨l,h1,h2,h3,h4,h5,_⟩:=lU hlen hb ht;⟨l,h1,h2,h3,h4,h5⟩
theorem tj:∀(as bs:List Int),eqBL (as.map D.int) (bs.map D.int)=decide (as=bs)
 | [],[]=>by unfold eqBL;rfl
 | [],_::_=>by unfold eqBL;rfl
 |_::_,[]=>by unfold eqBL;rfl
 |a::as,b::bs=>by
  rw[map_cons,map_cons];unfold eqBL;rw[tj as bs];unfold bW;by_cases h:a=b
  ·subst h;rw[beq_self_eq_true,Bool.true_and];by_cases h2:as=bs
   ·rw[decide_eq_true h2,decide_eq_true (by rw[h2])]
   ·rw[decide_eq_false h2,decide_eq_false (fun z=>h2 (List.cons.inj z).2)]
  ·rw[beq_eq_false_iff_ne.mpr h,Bool.false_and,decide_eq_false (fun z=>h (List.cons.inj z).1)]
theorem BO {as bs:List Int}:Bp (.lst (as.map D.int)) (.lst (bs.map D.int))= .ok (.bl (decide (as=bs))):=by
 unfold Bp;rw[if_pos ⟨mv fun _ _=>fT,mv fun _ _=>fT⟩];unfold bW;rw[tj]
noncomputable def kT (ts:List Tr)(T:Pl):Bool:=decide ((T.map fun r=>(r.length:Int))=ts.map fun t=>((aq t).length:Int))
theorem u_ {ts:List Tr}{T:Pl}(h1:ts.length≤5)(h2:T.length≤1000):fI K CL [.lst (ts.map ao),.lst (T.map am)]= .ok (.bl (kT ts T)):=by
 unfold fI;refine(bu rfl).trans ?_;have e0:aC fk [.lst (ts.map ao),.lst (T.map am)]=[some (.lst (ts.map ao)),some (.lst (T.map am))]:=rfl;rw[e0];unfold ij;simp only[aJ];rw[bf (xs:=T) (c:=am) (g:=fun r=>D.int (r.length:Int)) rfl (by omega) (fun r hr=>⟨_,rfl,dw⟩),bf (xs:=ts) (c:=ao) (g:=fun t=>D.int ((aq t).length:Int)) rfl (by omega) (fun t ht=>⟨_,rfl,dw⟩)];have z1:(T.map fun r=>D.int (r.length:Int))=(T.map fun r=>(r.length:Int)).map D.int:=by rw[map_map];rfl
 have z2:(ts.map fun t=>D.int ((aq t).length:Int))=(ts.map fun t=>((aq t).length:Int)).map D.int:=by rw[map_map];rfl
 simp only[aJ,z1,z2,BO];rfl
noncomputable abbrev rT (CL:Addr)(rs:List Int)(g:Int)(ts:List Tr)(T:Pl)(o5 o6 o7 o8 o9:Option D):DS:=[some (av CL rs g),some (.lst (ts.map br)),some (.lst (ts.map ao)),some (.lst (T.map am)),some (.lst (rs.map D.int)),o5,o6,o7,o8,o9]
theorem qP {rs:List Int}{g:Int}{ts:List Tr}{T:Pl}(C:Ctx rs g ts)(hlen:T.length=ts.length):cE K CL [av CL rs g,.lst (ts.map br),.lst (ts.map ao),.lst (T.map am)]= .ok (.bl (kA rs ts T)):=by
 unfold cE;refine(bu rfl).trans ?_;have e0:aC gy [av CL rs g,.lst (ts.map br),.lst (ts.map ao),.lst (T.map am)]=[some (av CL rs g),some (.lst (ts.map br)),some (.lst (ts.map ao)),some (.lst (T.map am)),none,none,none,none,none,none]:=rfl;rw[e0];unfold d_;simp only[aJ,Fz,d7,eA];refine qD (fun _ ρ=>∃o5 o6 o7 r s,ρ=(rT CL rs g ts T o5 o6 o7 r s)) (fun _ q=>inT rs q.1.2.2 (gw T q)) (.bl false) (CB none none none none none rfl) (fun pre q post exs ρ hZ203=>?_) (fun hk ρ' hZ204=>?_) (fun hk=>?_)
 ·refine DR (hZ203) fun o5 o6 o7 r s e=>?_;subst e;have hq:q∈ts.zipIdx:=by rw[exs];simp
  have G:=C.good hq;have hz:=mem_zip.mp hq;have hk:q.2<T.length:=by rw[hlen];exact(cU hz).1
  have hix:=bb (g:=am) (ce hk);have hit:=bb (g:=br) hz;have e2:aL (br q.1) (.int 2)= .ok (.int q.1.2.2):=qj;have hzp:pI [ao q.1,am (aj T q.2)]= .ok ((gw T q).map fun u=>.tup [.int (u.1:Int),.int u.2]):=lX;refine⟨_,rfl,?_⟩;simp only[aJ,hit,e2,hix,hzp];have y:=uv (d:=.bl false) (asg:=eE 8 9) (c:=fun u:Nat×Int=>D.tup [.int (u.1:Int),.int u.2]) (xs:=gw T q)
   (F:=ax (i3 (f8 (ae (ab 9) (ab 7) wv)) (bw (kB false)) nxt) (aT 7 (ae (ab 9) (ae (ab 4) (ab 8) aL) aZ)))
   (P:=fun ρ'=>∃o5 o6 o7 r s,ρ'=(rT CL rs g ts T o5 o6 o7 r s))
   (ρ:=(rT CL rs g ts T (some (.int (q.2:Int))) (some (ao q.1)) (some (.int q.1.2.2)) r s))
   (fun pre ρ=>∃r s,ρ=(rT CL rs g ts T (some (.int (q.2:Int))) (some (ao q.1)) (some (.int (sn rs q.1.2.2 pre))) r s))
   (fun pre u=> !decide (u.2<sn rs q.1.2.2 pre)) ⟨r,s,rfl⟩ (fun pr u po exs2 ρ hZ205=>by
    obtain⟨r,s,e⟩:=hZ205;subst e;have hu:u∈gw T q:=by rw[exs2];simp
    have hs:u.1<rs.length:=cP G _ (of_mem_zip hu).1;have y0:=bb (g:=D.int) (gl (d:=0) hs);refine(gW _ rfl (fun z=>?_) (fun z=>?_))
    ·rw[not_eq_true']at z;refine(rF (rT CL rs g ts T (some (.int (q.2:Int))) (some (ao q.1)) (some (.int (sn rs q.1.2.2 (pr ++ [u])))) (some (.int (u.1:Int))) (some (.int u.2))) ?_ _ _ rfl);simp only[aJ,z,y0,sr]
    ·rw[Bool.not_eq_false']at z;simp only[aJ,z]) (fun ρ' hZ206=>(by obtain⟨r,s,e⟩:=hZ206;exact(CB _ _ _ _ _ e)))
  rw[show fP (fun pre u=> !decide (u.2<sn rs q.1.2.2 pre)) [] (gw T q)=inT rs q.1.2.2 (gw T q) from yi _ []]at y;exact y
 ·refine DR (hZ204) fun o5 o6 o7 r s e=>?_;subst e;rw[hZ]at hk;simp only[aJ];unfold kA;rw[hk]
 ·rw[hZ]at hk;unfold kA;rw[hk]
end
section
variable{K:W.Frag}{CL:Addr}
theorem oe {l:List D}:kR (some 1) none (.lst l)= .ok (.lst l.tail):=by
 show Res.ok (D.lst ((l.drop (HT.cS l.length 0 (some 1))).take (HT.cS l.length l.length none-HT.cS l.length 0 (some 1))))=_;have e1:HT.cS l.length 0 (some 1)=min 1 l.length:=HT.Dx l.length 0 1;have e2:HT.cS l.length l.length none=l.length:=rfl;rw[e1,e2];cases l with
 |nil=>rfl
 |cons a l=>
  have:min 1 (a::l).length=1:=by rw[length_cons];omega
  rw[this,length_cons];show Res.ok (D.lst (l.take (l.length+1-1)))=_;rw[Nat.add_sub_cancel,take_length];rfl
noncomputable abbrev rA (CL:Addr)(rs:List Int)(g:Int)(ts:List Tr)(T:Pl)(o4 o5 o6 o7 o8:Option D):DS:=[some (av CL rs g),some (.lst (ts.map ao)),some (.lst (T.map am)),some (.int g),o4,o5,o6,o7,o8]
noncomputable def Hg (rs:List Int)(g:Int)(ts:List Tr)(T:Pl)(s:Nat):Bool:= @decide (Ap rs g ts T s) (Classical.propDecidable _)
theorem apB_iff {rs:List Int}{g:Int}{ts:List Tr}{T:Pl}{s:Nat}:Hg rs g ts T s=true↔Ap rs g ts T s:=by unfold Hg;exact @decide_eq_true_iff _ (Classical.propDecidable _)
noncomputable def nV (rs:List Int)(g:Int)(ts:List Tr)(T:Pl):Bool:=rs.zipIdx.all fun q=>Hg rs g ts T q.2
theorem apAll_iff {rs:List Int}{g:Int}{ts:List Tr}{T:Pl}:nV rs g ts T=true↔∀s,s<rs.length→Ap rs g ts T s:=by
 unfold nV;rw[all_eq_true];constructor
 ·intro h s hs;exact apB_iff.mp (h (rs[s],s) (mem_zip.mpr (cz hs)))
 ·intro h q hq;exact apB_iff.mpr (h q.2 (cU (mem_zip.mp hq)).1)
theorem sK {rs:List Int}{g:Int}{ts:List Tr}{T:Pl}(C:Ctx rs g ts)(hlen:T.length=ts.length)(hb:∀r∈T,r.length≤1000):eF K CL [av CL rs g,.lst (ts.map ao),.lst (T.map am)]= .ok (.bl (nV rs g ts T)):=by
 unfold eF;refine(bu rfl).trans ?_;have e0:aC jd [av CL rs g,.lst (ts.map ao),.lst (T.map am)]=[some (av CL rs g),some (.lst (ts.map ao)),some (.lst (T.map am)),none,none,none,none,none,none]:=rfl;rw[e0];unfold f_;simp only[aJ,Fz,Jo,kx,d7,eA];refine qD (fun _ ρ=>∃o4 o5 o6 t v,ρ=rA CL rs g ts T o4 o5 o6 t v) (fun _ q=>Hg rs g ts T q.2) (.bl false) (CB none none none none none rfl) (fun pre q post exs ρ hZ207=>?_) (fun hk ρ' hZ208=>?_) (fun hk=>?_)
 ·refine DR (hZ207) fun o4 o5 o6 t v e=>?_;subst e;have hq:q∈rs.zipIdx:=by rw[exs];simp
  have hz:=mem_zip.mp hq;have hs:q.2<rs.length:=(cU hz).1;have hr:rs.getD q.2 0=q.1:=by rw[getD_eq_getElem?_getD,hz];rfl
  have hd:1≤apart rs g q.2:=by
   have:=iS C.ln hs;have:=C.ln.gap;unfold apart;omega
  refine uD (s9 (K:=K) (CL:=CL) (s:=q.2) hlen hb C.few) fun l el l5 ml nl sl=>?_;have iff:=Bw hd ml nl sl;have hzp:pI [.lst (l.map aQ),.lst ((l.map aQ).tail)]= .ok ((l.zip l.tail).map fun u=>.tup [aQ u.1,aQ u.2]):=by
   rw[←map_tail];exact lX
  refine⟨_,rfl,?_⟩;simp only[aJ,el,oe,hzp];have y:=uv (d:=.bl false) (asg:=eE 7 8) (c:=fun u:List Int×List Int=>D.tup [aQ u.1,aQ u.2]) (xs:=l.zip l.tail)
   (F:=i3 (f8 (ae (ae (ab 8) (kI 0) aL) (ae (ae (ae (ab 7) (kI 0) aL) (ab 5) aZ) (ab 3) aZ) wv)) (bw (kB false)) nxt)
   (P:=fun ρ'=>∃o4 o5 o6 t v,ρ'=rA CL rs g ts T o4 o5 o6 t v)
   (ρ:=rA CL rs g ts T (some (.int (q.2:Int))) (some (.int q.1)) (some (.lst (l.map aQ))) t v)
   (fun pre ρ=>∃t v,ρ=rA CL rs g ts T (some (.int (q.2:Int))) (some (.int q.1)) (some (.lst (l.map aQ))) t v)
   (fun _ u=>oA (apart rs g q.2) u) ⟨t,v,rfl⟩ (fun pr u po exs2 ρ hZ209=>by
    refine cps fun PP kP=>?_;obtain⟨t,v,e⟩:=hZ209;subst e;have hu:u∈l.zip l.tail:=by rw[exs2];simp
    obtain⟨u1,u2,_⟩:=qO nl u hu;obtain⟨e1,_,f1⟩:=mem_map.mp ((ml _).mp u1);obtain⟨e2,_,f2⟩:=mem_map.mp ((ml _).mp u2);refine kP ?_;clear kP PP;have x1:aL (aQ u.1) (.int 0)= .ok (.int (u.1.headD 0)):=by rw[←f1];exact qi
    have x2:aL (aQ u.2) (.int 0)= .ok (.int (u.2.headD 0)):=by rw[←f2];exact qi
    have x3:decide (u.2.headD 0<u.1.headD 0+q.1+g)= !oA (apart rs g q.2) u:=by
     unfold oA apart;rw[hr,not_not,Int.add_assoc]
    refine(gW _ rfl (fun hok=>?_) (fun hok=>?_))
    ·rw[hok]at x3;refine(rF (rA CL rs g ts T (some (.int (q.2:Int))) (some (.int q.1)) (some (.lst (l.map aQ))) (some (aQ u.1)) (some (aQ u.2))) ?_ _ _ rfl);simp only[aJ,x1,x2,x3]
    ·rw[hok]at x3;simp only[aJ,x1,x2,x3]) (fun ρ' hZ210=>(by obtain⟨t,v,e⟩:=hZ210;exact(CB _ _ _ _ _ e)))
  rw[hZ]at y;have eqb:(l.zip l.tail).all (fun u=>oA (apart rs g q.2) u)=Hg rs g ts T q.2:=by
   rw[Bool.eq_iff_iff,apB_iff];exact iff
  rw[eqb]at y;exact y
 ·refine DR (hZ208) fun o4 o5 o6 t v e=>?_;subst e;rw[hZ]at hk;simp only[aJ];unfold nV;rw[hk]
 ·rw[hZ]at hk;unfold nV;rw[hk]
theorem yI {ts:List Tr}{T:Pl}(h:kT ts T=true):T.length=ts.length:=by
 unfold kT at h;have:=congrArg List.length (of_decide_eq_true h);rw[length_map,length_map]at this;exact this
theorem zN {rs:List Int}{g:Int}{ts:List Tr}{T:Pl}(C:Ctx rs g ts)(hT:T.length≤1000)(hb:∀r∈T,r.length≤1000):gq K CL [av CL rs g,.lst (ts.map br),.lst (T.map am)]= .ok (.bl (kT ts T&&(kA rs ts T&&nV rs g ts T))):=by
 have hf:=C.few;have ho:=C.one;have hr5:=C.ln.few;unfold gq;refine(bu rfl).trans ?_;have e0:aC qL [av CL rs g,.lst (ts.map br),.lst (T.map am)]=[some (av CL rs g),some (.lst (ts.map br)),some (.lst (T.map am)),none]:=rfl;rw[e0];unfold nh;have e1:dC K CL [av CL rs g,.lst (ts.map br)]= .ok (.lst (ts.map ao)):=nR C.tr (by omega) ho hf;simp only[aJ,e1,u_ (K:=K) (CL:=CL) hf hT];cases hw:kT ts T with
 |false=>simp only[aJ]
 |true=>
  have hl:=yI hw;simp only[aJ,qP (K:=K) (CL:=CL) C hl,sK (K:=K) (CL:=CL) C hl hb];cases kA rs ts T with
  |true=>simp only[aJ]
  |false=>simp only[aJ]
end
theorem uj {rs:List Int}{g:Int}{ts:List Tr}(C:Ctx rs g ts):∀(n:Nat) (p:Pl),Inv1 ts p→n+(p.map List.length).sum=26→Inv1 ts (run rs g ts n p)∧bp ts (run rs g ts n p)=[]:=by
 intro l_
 induction l_ with
 |zero=>
  rintro p I h;have:=vP I C.tr C.ln.few C.few;omega
 |succ n ihh=>
  rintro p I h;cases hc:bp ts p with
  |nil=>rw[lL hc];exact⟨I,hc⟩
  |cons q qs=>
   rw[lM hc];have hm:bI (f2 rs g ts p) q qs∈bp ts p:=by rw[hc];exact lG _ _ _
   have hz:=mem_zip.mp (mem_filter.mp hm).1;have hk:(bI (f2 rs g ts p) q qs).2<p.length:=by rw[I.len];exact(cU hz).1
   refine ihh _ (lv I hm) ?_;unfold step;rw[nO hk];omega
structure Tab (T:Pl):Prop where
 one:1≤T.length
 few:T.length≤5
 rows:∀r∈T,1≤r.length∧r.length≤5
theorem DL {rs:List Int}{g:Int}{ts:List Tr}(C:Ctx rs g ts):Tab (run rs g ts 26 (p0 ts)):=by
 obtain⟨I,hc⟩:=uj C 26 (p0 ts) l7 (by rw[sv]);refine⟨by rw[I.len];exact C.one,by rw[I.len];exact C.few,fun r hr=>?_⟩;obtain⟨k,hk,e⟩:=getElem_of_mem hr;have hk':k<ts.length:=by rw[←I.len];exact hk
 have hz:(ts[k],k)∈ts.zipIdx:=mem_zip.mpr (cz hk');have h1:=I.rows _ hz;have h3:aj (run rs g ts 26 (p0 ts)) k=r:=by
  have:=ce hk;rw[cz hk,e]at this;exact(Option.some.inj this).symm
 have h4:=eL (C.good hz);have h5:=Bk (C.good hz);have h6:=C.ln.few;dsimp only at h1 h4 h5;rw[h3]at h1;refine⟨?_,by omega⟩;apply Classical.byContradiction;intro hn;have:(ts[k],k)∈bp ts (run rs g ts 26 (p0 ts)):=mem_filter.mpr ⟨hz,decide_eq_true (by
  show (aj _ k).length<_;rw[h3];show r.length<(aq ts[k]).length;omega)⟩
 rw[hc]at this;cases this
noncomputable abbrev Vt:=Nat×Nat
section
variable(vs:List Vt)(W:Vt→List (Vt×Int))(ready:Vt→Int)
noncomputable def b8 (turn:List Vt):List Vt:=vs.filter fun v=> !turn.contains v&&((W v).all fun u=>turn.contains u.1)
noncomputable def fD:Nat→List Vt→List Vt
 |0,t=>t
 |n+1,t=>if b8 vs W t=[] then t else fD n (t ++ b8 vs W t)
structure Turn (t:List Vt):Prop where
 nd:t.Nodup
 sub:∀v∈t,v∈vs
 top:∀a v b,t=a ++ v::b→∀u∈W v,u.1∈a
noncomputable def Ej (e:Vt→Int)(v:Vt):Vt→Int:=fun x=>if x=v then uJ (ready v) ((W v).map fun u=>e u.1+u.2) else e x
noncomputable def gX (t:List Vt):Vt→Int:=t.foldl (Ej W ready) (fun _=>0)
structure Sol (τ:Vt→Int):Prop where
 rd:∀v∈vs,ready v≤τ v
 wt:∀v∈vs,∀u∈W v,τ u.1+u.2≤τ v
end
theorem wZ {α:Type}{P:List α→Prop}(h0:P [])(h1:∀t x,P t→P (t ++ [x]))(l:List α):P l:=by
 have h:∀r:List α,P r.reverse:=fun r=>by
  induction r with
  |nil=>exact h0
  |cons x r ih=>rw[reverse_cons];exact h1 _ _ ih
 have:=h l.reverse;rwa[List.reverse_reverse]at this
theorem hX {α:Type}[DecidableEq α]:∀{t vs:List α},t.Nodup→(∀v∈t,v∈vs)→t.length≤vs.length:=by
 intro l_
 induction l_ with
 |nil=>
  rintro _ _ _;exact zero_le _
 |cons a t ihh=>
  rintro vs nd h;obtain⟨n1,n2⟩:=nodup_cons.mp nd;have ha:=h a (mem_cons_self ..);have ih:=ihh (vs:=vs.erase a) n2 fun v hv=>(List.mem_erase_of_ne (fun (e:v=a)=>n1 (e ▸ hv))).mpr (h v (cR hv));rw[List.length_erase_of_mem ha]at ih;have:=List.length_pos_of_mem ha;rw[length_cons];omega
section
variable{vs:List Vt}{W:Vt→List (Vt×Int)}{ready:Vt→Int}
theorem mem_freed {t:List Vt}{v:Vt}:v∈b8 vs W t↔v∈vs∧v∉t∧∀u∈W v,u.1∈t:=by
 unfold b8;rw[mem_filter,and_eq_true,all_eq_true];simp
theorem pD:Turn vs W [] where
 nd:=nodup_nil
 sub:=fun v h=>nomatch h
 top:=fun a v b e=>by cases a <;> cases e
theorem yA {α:Type}{t f a b:List α}{v:α}(e:t ++ f=a ++ v::b):(∃c,t=a ++ v::c)∨∃c,a=t ++ c∧f=c ++ v::b:=by
 rcases List.append_eq_append_iff.mp e with ⟨c,h1,h2⟩|⟨c,h1,h2⟩
 ·exact .inr ⟨c,h1,h2⟩
 ·cases c with
  |nil=>exact .inr ⟨[],by simpa using h1.symm,by simpa using h2.symm⟩
  |cons x c=>
   simp at h2;obtain⟨rfl,h3⟩:=h2;exact .inl ⟨c,h1⟩
theorem qG {t:List Vt}(hv:vs.Nodup)(h:Turn vs W t):Turn vs W (t ++ b8 vs W t):=by
 refine⟨nodup_append.mpr ⟨h.nd,hv.filter _,fun a ha b hb e=>?_⟩,fun v m=>?_,fun a v b e u hu=>?_⟩
 ·subst e;exact(mem_freed.mp hb).2.1 ha
 ·rcases mem_append.mp m with z|z
  ·exact h.sub v z
  ·exact(mem_freed.mp z).1
 ·rcases yA e with ⟨c,z⟩|⟨c,z1,z2⟩
  ·exact h.top a v c z u hu
  ·rw[z1];exact mem_append_left _ ((mem_freed.mp (by rw[z2];exact mem_append_right _ (mem_cons_self ..))).2.2 u hu)
theorem qm (hv:vs.Nodup):∀(n:Nat) (t:List Vt),Turn vs W t→vs.length<n+t.length→Turn vs W (fD vs W n t)∧b8 vs W (fD vs W n t)=[]:=by
 intro l_
 induction l_ with
 |zero=>
  rintro t h hl;exact by have:=hX h.nd h.sub;omega
 |succ n ihh=>
  rintro t h hl;unfold fD;by_cases e:b8 vs W t=[]
  ·rw[if_pos e];exact⟨h,e⟩
  ·rw[if_neg e];refine ihh _ (qG hv h) ?_;have:=length_pos_iff.mpr e;rw[length_append];omega
theorem Turn.pre {a b:List Vt}(h:Turn vs W (a ++ b)):Turn vs W a:=⟨(nodup_append.mp h.nd).1,fun v m=>h.sub v (mem_append_left _ m),fun x v y e u hu=>h.top x v (y ++ b) (by rw[e];simp) u hu⟩
theorem oK {t:List Vt}{v:Vt}:gX W ready (t ++ [v])=Ej W ready (gX W ready t) v:=by unfold gX;rw[foldl_append];rfl
theorem rN:∀{t:List Vt},Turn vs W t→∀v∈t,gX W ready t v=uJ (ready v) ((W v).map fun u=>gX W ready t u.1+u.2):=by
 intro t
 induction t using wZ with
 |h0=>intro _ v m;cases m
 |h1 t x ih=>
  intro h v m;have hx:x∉t:=fun z=>(nodup_append.mp h.nd).2.2 x z x (List.mem_singleton_self x) rfl;have wx:∀u∈W x,u.1∈t:=fun u hu=>h.top t x [] rfl u hu;have same:∀y∈t,Ej W ready (gX W ready t) x y=gX W ready t y:=fun y hy=>by unfold Ej;rw[if_neg (fun (z:y=x)=>hx (z ▸ hy))]
  rw[oK];have key:∀y,(∀u∈W y,u.1∈t)→((W y).map fun u=>Ej W ready (gX W ready t) x u.1+u.2)=(W y).map fun u=>gX W ready t u.1+u.2:=fun y hy=>map_congr_left fun u hu=>by rw[same u.1 (hy u hu)]
  rcases mem_append.mp m with z|z
  ·rw[same v z,ih h.pre v z];obtain⟨a,b,e⟩:=List.append_of_mem z;rw[key v fun u hu=>by rw[e];exact mem_append_left _ (h.pre.top a v b e u hu)]
  ·have e:=mem_singleton.mp z;subst e;rw[key v wx];unfold Ej;rw[if_pos rfl]
theorem FJ {t:List Vt}(h:Turn vs W t){v:Vt}(m:v∈t):ready v≤gX W ready t v:=by
 rw[rN h v m];exact(eI _ _).1.1
theorem FL {t:List Vt}(h:Turn vs W t){v:Vt}(m:v∈t){u:Vt×Int}(hu:u∈W v):gX W ready t u.1+u.2≤gX W ready t v:=by
 rw[rN h v m];exact(eI _ _).1.2 _ (List.mem_map_of_mem hu)
theorem x9 {t:List Vt}(h:Turn vs W t){v:Vt}(m:v∈t):gX W ready t v=ready v∨∃u∈W v,gX W ready t v=gX W ready t u.1+u.2:=by
 rcases (eI ((W v).map fun u=>gX W ready t u.1+u.2) (ready v)).2 with z|z
 ·exact .inl ((rN h v m).trans z)
 ·obtain⟨u,hu,e⟩:=mem_map.mp z;exact .inr ⟨u,hu,(rN h v m).trans e.symm⟩
theorem FI {τ:Vt→Int}(s:Sol vs W ready τ){t:List Vt}(h:Turn vs W t):∀v∈t,gX W ready t v≤τ v:=by
 have go:∀(a b:List Vt),t=a ++ b→∀v∈a,gX W ready t v≤τ v:=by
  intro a
  induction a using wZ with
  |h0=>intro b _ v m;cases m
  |h1 a x ih=>
   intro b e v m
   rcases mem_append.mp m with z|z
   ·exact ih ([x] ++ b) (by rw[e];simp) v z
   ·have ex:=mem_singleton.mp z;subst ex;have hv:v∈t:=by rw[e];exact mem_append_left _ m
    have e':t=a ++ v::b:=by rw[e];simp
    rcases x9 (ready:=ready) h hv with q|⟨u,hu,q⟩
    ·rw[q];exact s.rd v (h.sub v hv)
    ·have h1:=ih ([v] ++ b) (by rw[e];simp) u.1 (h.top a v b e' u hu);have h2:=s.wt v (h.sub v hv) u hu;omega
 exact fun v m=>go t [] (by simp) v m
theorem tI {τ:Vt→Int}(s:Sol vs W ready τ)(h0:∀v∈vs,0≤ready v)(hw:∀v∈vs,∀u∈W v,1≤u.2∧u.1∈vs){t:List Vt}(he:b8 vs W t=[]):∀v∈vs,v∈t:=by
 have go:∀n:Nat,∀v∈vs,(τ v).toNat≤n→v∈t:=by
  intro n
  induction n with
  |zero=>
   intro v A hn;apply Classical.byContradiction;intro nt;have:v∈b8 vs W t:=mem_freed.mpr ⟨A,nt,fun u hu=>by
    exfalso;have h1:=s.wt v A u hu;have h2:=hw v A u hu;have h3:=s.rd u.1 h2.2;have h4:=h0 u.1 h2.2;omega⟩
   rw[he]at this;cases this
  |succ n ih=>
   intro v A hn;apply Classical.byContradiction;intro nt;have:v∈b8 vs W t:=mem_freed.mpr ⟨A,nt,fun u hu=>by
    have h1:=s.wt v A u hu;have h2:=hw v A u hu;have h3:=s.rd u.1 h2.2;have h4:=h0 u.1 h2.2;exact ih u.1 h2.2 (by omega)⟩
   rw[he]at this;cases this
 exact fun v A=>go _ v A (le_refl _)
theorem uq {t:List Vt}(h:Turn vs W t)(hf:∀v∈vs,v∈t):Sol vs W ready (gX W ready t):=⟨fun v hv=>FJ h (hf v hv),fun v hv u hu=>FL h (hf v hv) hu⟩
end
theorem zE {rs:List Int}:∀{l:List (Nat×Int)} {r:Int} {u:Nat×Int},inT rs r (l ++ [u])=(inT rs r l&&!decide (u.2<sn rs r l)):=by
 intro l_
 induction l_ with
 |nil=>
  rintro r u;show (!decide (u.2<r)&&inT rs _ [])=(true&&!decide (u.2<r));rw[Bool.true_and];exact Bool.and_true _
 |cons x l ihh=>
  rintro r u;show (!decide (x.2<r)&&inT rs (x.2+rs.getD x.1 0) (l ++ [u]))=(!decide (x.2<r)&&inT rs (x.2+rs.getD x.1 0) l&&!decide (u.2<sn rs (x.2+rs.getD x.1 0) l));rw[ihh,Bool.and_assoc]
theorem AX {rs:List Int}{p:Pl}{q:Q}(h:(aj p q.2).length≤(aq q.1).length):sn rs q.1.2.2 (gw p q)=there rs p q:=by
 unfold gw there;cases e:(aj p q.2).getLast? with
 |none=>
  rw[List.getLast?_eq_none_iff.mp e];simp[sn]
 |some m=>
  obtain⟨pre,e2⟩:=List.getLast?_eq_some_iff.mp e;rw[e2]at h ⊢;have hl:pre.length<(aq q.1).length:=by rw[length_append]at h;simp at h;omega
  rw[lQ (cz hl),sr];dsimp only;rw[length_append];show m+_=m+rs.getD ((aq q.1).getD (pre.length+1-1) 0) 0;rw[Nat.add_sub_cancel,getD_eq_getElem?_getD,getD_eq_getElem?_getD,getD_eq_getElem?_getD,cz hl];rfl
structure InvK (rs:List Int)(g:Int)(ts:List Tr)(p:Pl):Prop where
 tm:∀q∈ts.zipIdx,inT rs q.1.2.2 (gw p q)=true
 ap:∀s,Ap rs g ts p s
theorem oh {rs:List Int}{g:Int}{ts:List Tr}{p:Pl}{q:Q}(I:Inv1 ts p)(hq:q∈bp ts p){s:Nat}{e:Int×Nat}(h:e∈cc ts (step rs g ts p q) s):e∈cc ts p s∨(e.2=q.2∧e.1=ci rs g ts p q∧s=ba p q):=by
 obtain⟨h1,h2⟩:=mem_filter.mp hq;have hz:=mem_zip.mp h1;have hkp:q.2<p.length:=by rw[I.len];exact(cU hz).1
 have hlt:(aj p q.2).length<(aq q.1).length:=of_decide_eq_true h2;obtain⟨m,k⟩:=e;obtain⟨t,ht,hm⟩:=ent_mem.mp h;have er:aj (step rs g ts p q) k=if k=q.2 then aj p q.2 ++ [ci rs g ts p q] else aj p k:=lK hkp
 rw[er]at hm;by_cases hk:k=q.2
 ·subst hk;rw[hz]at ht;cases ht;rw[if_pos rfl,iN (uu (ts:=ts) hlt)]at hm
  rcases mem_append.mp hm with z|z
  ·exact .inl (ent_mem.mpr ⟨q.1,hz,z⟩)
  ·by_cases hs:ba p q=s
   ·rw[if_pos hs]at z;exact .inr ⟨rfl,mem_singleton.mp z,hs.symm⟩
   ·rw[if_neg hs]at z;cases z
 ·rw[if_neg hk]at hm;exact .inl (ent_mem.mpr ⟨t,ht,hm⟩)
theorem xT {rs:List Int}{g:Int}{ts:List Tr}{p:Pl}{q:Q}(I:Inv1 ts p)(J:InvK rs g ts p)(hq:q∈bp ts p):InvK rs g ts (step rs g ts p q):=by
 obtain⟨h1,h2⟩:=mem_filter.mp hq;have hz:=mem_zip.mp h1;have hkp:q.2<p.length:=by rw[I.len];exact(cU hz).1
 have hlt:(aj p q.2).length<(aq q.1).length:=of_decide_eq_true h2;refine⟨fun u hu=>?_,fun s e he e' he' hne=>?_⟩
 ·have er:aj (step rs g ts p q) u.2=if u.2=q.2 then aj p q.2 ++ [ci rs g ts p q] else aj p u.2:=lK hkp
  have h0:=J.tm u hu;unfold gw at h0 ⊢;rw[er];by_cases hk:u.2=q.2
  ·have hu':=mem_zip.mp hu;rw[hk,hz]at hu';have eu:q.1=u.1:=Option.some.inj hu';rw[if_pos hk,←eu,lQ (uu (ts:=ts) hlt),zE];have e2:=AX (rs:=rs) (I.rows q h1);unfold gw at e2;rw[hk,←eu]at h0;rw[h0,e2,Bool.true_and];have:¬(ci rs g ts p q<there rs p q):=by unfold ci;omega
   simp[this]
  ·rw[if_neg hk];exact h0
 ·have near:∀e∈cc ts p (ba p q),e.1+apart rs g (ba p q)≤ci rs g ts p q:=fun e he=>by
   have:e.1+apart rs g (ba p q)≤free rs g ts p (ba p q):=(eI _ _).1.2 _ (List.mem_map_of_mem he);unfold ci;omega
  rcases oh I hq he with z|⟨z1,z2,z3⟩
  ·rcases oh I hq he' with y|⟨y1,y2,y3⟩
   ·exact J.ap s e z e' y hne
   ·subst y3;rw[y2];exact .inl (near e z)
  ·rcases oh I hq he' with y|⟨y1,y2,y3⟩
   ·subst z3;rw[z2];exact .inr (near e' y)
   ·exact absurd (z1.trans y1.symm) hne
theorem Cv {rs:List Int}{g:Int}{ts:List Tr}:InvK rs g ts (p0 ts):=by
 refine⟨fun q _=>?_,fun s e he=>?_⟩
 ·unfold gw;rw[ph];simp[inT]
 ·obtain⟨m,k⟩:=e;obtain⟨t,_,hm⟩:=ent_mem.mp he;rw[ph]at hm;simp[aN]at hm
theorem zG {rs:List Int}{g:Int}{ts:List Tr}:∀(n:Nat) (p:Pl),Inv1 ts p→InvK rs g ts p→InvK rs g ts (run rs g ts n p):=by
 intro l_
 induction l_ with
 |zero=>
  rintro p _ J;exact J
 |succ n ihh=>
  rintro p I J;cases hc:bp ts p with
  |nil=>rw[lL hc];exact J
  |cons q qs=>
   rw[lM hc];have hm:bI (f2 rs g ts p) q qs∈bp ts p:=by rw[hc];exact lG _ _ _
   exact ihh _ (lv I hm) (xT I J hm)
structure Keeps (rs:List Int)(g:Int)(ts:List Tr)(T:Pl):Prop where
 len:T.length=ts.length
 row:∀q∈ts.zipIdx,(aj T q.2).length=(aq q.1).length
 tm:∀q∈ts.zipIdx,inT rs q.1.2.2 (gw T q)=true
 ap:∀s,s<rs.length→Ap rs g ts T s
theorem xY {rs:List Int}{g:Int}{ts:List Tr}(C:Ctx rs g ts):Keeps rs g ts (run rs g ts 26 (p0 ts)):=by
 obtain⟨I,hc⟩:=uj C 26 (p0 ts) l7 (by rw[sv]);have J:=zG 26 (p0 ts) l7 (Cv (rs:=rs) (g:=g));refine⟨I.len,fun q hq=>?_,J.tm,fun s _=>J.ap s⟩;have h1:=I.rows q hq;apply Classical.byContradiction;intro hn;have:q∈bp ts (run rs g ts 26 (p0 ts)):=mem_filter.mpr ⟨hq,decide_eq_true (by omega)⟩;rw[hc]at this;cases this
noncomputable def gK (ts:List Tr)(T:Pl)(v:Vt):Int:=match ts[v.1]? with
 |some t=>(aN (aq t) (aj T v.1) v.2).headD 0
 |none=>0
noncomputable def aG (ts:List Tr):List Vt:=ts.zipIdx.flatMap fun q=>(aq q.1).map fun s=>(q.2,s)
theorem mem_visits {ts:List Tr}{v:Vt}:v∈aG ts↔∃t,ts[v.1]?=some t∧v.2∈aq t:=by
 unfold aG;rw[mem_flatMap];constructor
 ·intro hZ37;refine cps fun PP kP=>?_;obtain⟨q,hq,h⟩:=hZ37;obtain⟨s,hs,e⟩:=mem_map.mp h;refine kP ?_;clear kP PP;subst e;exact⟨q.1,mem_zip.mp hq,hs⟩
 ·intro hZ38;obtain⟨t,ht,h⟩:=hZ38;exact⟨(t,v.1),mem_zip.mpr ht,mem_map.mpr ⟨v.2,h,rfl⟩⟩
theorem eW {ts:List Tr}:(aG ts).Nodup:=by
 unfold aG;have h1:ts.zipIdx.Pairwise fun a b=>a.2≠b.2:=by
  have:=iO (ts:=ts) (f:=fun _=>true);rwa[List.filter_eq_self.mpr (fun _ _=>rfl)]at this
 rw[nodup_iff_pairwise_ne,List.pairwise_flatMap];refine⟨fun q _=>?_,h1.imp fun {a b} hab x hx y hy e=>?_⟩
 ·rw[←nodup_iff_pairwise_ne];exact List.Pairwise.map _ (fun a b (h:a≠b) e=>h (Prod.mk.inj e).2) (cx (t:=q.1))
 ·refine cps fun PP kP=>?_;obtain⟨s,_,rfl⟩:=mem_map.mp hx;obtain⟨s',_,rfl⟩:=mem_map.mp hy;refine kP ?_;clear kP PP;exact hab (Prod.mk.inj e).1
theorem yk {w:List Nat}{row:List Int}{s:Nat}(hw:w.Nodup)(hl:row.length=w.length)(hs:s∈w):∃m,aN w row s=[m]∧(s,m)∈w.zip row:=by
 have h1:=dZ (row:=row) (s:=s) hw;obtain⟨i,hi,e⟩:=getElem_of_mem hs;have hi':i<row.length:=by rw[hl];exact hi
 have hz:(s,row[i])∈w.zip row:=by
  have:(w.zip row)[i]?=some (w[i],row[i]):=by rw[getElem?_zip_eq_some];exact⟨cz hi,cz hi'⟩
  rw[e]at this;exact mem_of_getElem? this
 have hm:=pair_mem.mpr hz
 match q:aN w row s,h1,hm with
 | [m],_,hm=>exact⟨m,rfl,by rw[←mem_singleton.mp hm];exact hz⟩
theorem oU {ts:List Tr}{T:Pl}(hr:∀q∈ts.zipIdx,(aj T q.2).length=(aq q.1).length){v:Vt}(hv:v∈aG ts):(gK ts T v,v.1)∈cc ts T v.2:=by
 refine cps fun PP kP=>?_;obtain⟨t,ht,hs⟩:=mem_visits.mp hv;obtain⟨m,e,hz⟩:=yk cx (hr (t,v.1) (mem_zip.mpr ht)) hs;refine kP ?_;clear kP PP;refine ent_mem.mpr ⟨t,ht,?_⟩;unfold gK;rw[ht];dsimp only;rw[e];exact List.mem_singleton_self m
theorem s0 {ts:List Tr}{T:Pl}{s:Nat}{e:Int×Nat}(h:e∈cc ts T s):(e.2,s)∈aG ts∧e.1=gK ts T (e.2,s):=by
 obtain⟨m,k⟩:=e;obtain⟨t,ht,hm⟩:=ent_mem.mp h;have hl:=dZ (row:=aj T k) (s:=s) (cx (t:=t));have hz:=pair_mem.mp hm;refine⟨mem_visits.mpr ⟨t,ht,(of_mem_zip hz).1⟩,?_⟩;unfold gK;dsimp only;rw[ht];dsimp only
 match q:aN (aq t) (aj T k) s,hl,hm with
 | [x],_,hm=>exact mem_singleton.mp hm
theorem nE {ts:List Tr}{T:Pl}{k i:Nat}{t:Tr}{s:Nat}{m:Int}(ht:ts[k]?=some t)(h1:(aq t)[i]?=some s)(h2:(aj T k)[i]?=some m):gK ts T (k,s)=m:=by
 have hz:(s,m)∈(aq t).zip (aj T k):=mem_of_getElem? (i:=i) (getElem?_zip_eq_some.mpr ⟨h1,h2⟩);have:=(s0 (ts:=ts) (T:=T) (s:=s) (e:=(m,k)) (ent_mem.mpr ⟨t,ht,pair_mem.mpr hz⟩)).2;exact this.symm
noncomputable def wP (rs:List Int)(ts:List Tr)(v:Vt):List (Vt×Int):=match ts[v.1]? with
 |some t=>((aq t).zip (aq t).tail).filterMap fun u=>if u.2=v.2 then some ((v.1,u.1),rs.getD u.1 0) else none
 |none=>[]
noncomputable def wO (rs:List Int)(g:Int)(O:List (List Nat))(v:Vt):List (Vt×Int):=((O.getD v.2 []).zip (O.getD v.2 []).tail).filterMap fun u=>if u.2=v.1 then some ((u.1,v.2),rs.getD v.2 0+g) else none
noncomputable def sB (rs:List Int)(g:Int)(ts:List Tr)(O:List (List Nat))(v:Vt):List (Vt×Int):=wP rs ts v ++ wO rs g O v
noncomputable def ka (ts:List Tr)(v:Vt):Int:=match ts[v.1]? with|some t=>t.2.2|none=>0
theorem vo {rs:List Int}{ts:List Tr}{v:Vt}{t:Tr}(ht:ts[v.1]?=some t){u:Vt×Int}:u∈wP rs ts v↔∃a,(a,v.2)∈(aq t).zip (aq t).tail∧u=((v.1,a),rs.getD a 0):=by
 unfold wP;rw[ht];dsimp only;rw[mem_filterMap];constructor
 ·intro hZ39;obtain⟨x,hx,e⟩:=hZ39;by_cases z:x.2=v.2
  ·rw[if_pos z]at e;cases e;exact⟨x.1,by rw[←z];exact hx,rfl⟩
  ·rw[if_neg z]at e;cases e
 ·intro hZ40;obtain⟨a,ha,e⟩:=hZ40;exact⟨(a,v.2),ha,by rw[if_pos rfl,e]⟩
theorem mem_wO {rs:List Int}{g:Int}{O:List (List Nat)}{v:Vt}{u:Vt×Int}:u∈wO rs g O v↔∃a,(a,v.1)∈(O.getD v.2 []).zip (O.getD v.2 []).tail∧u=((a,v.2),rs.getD v.2 0+g):=by
 unfold wO;rw[mem_filterMap];constructor
 ·intro hZ41;obtain⟨x,hx,e⟩:=hZ41;by_cases z:x.2=v.1
  ·rw[if_pos z]at e;cases e;exact⟨x.1,by rw[←z];exact hx,rfl⟩
  ·rw[if_neg z]at e;cases e
 ·intro hZ42;obtain⟨a,ha,e⟩:=hZ42;exact⟨(a,v.1),ha,by rw[if_pos rfl,e]⟩
structure Ords (n:Nat)(ts:List Tr)(O:List (List Nat)):Prop where
 len:O.length=n
 nd:∀s,(O.getD s []).Nodup
 mem:∀s k,s<n→(k∈O.getD s []↔(k,s)∈aG ts)
theorem cA {α:Type}{l:List α}{u:α×α}(h:u∈l.zip l.tail):u.1∈l∧u.2∈l:=⟨(of_mem_zip h).1,List.mem_of_mem_tail (of_mem_zip h).2⟩
theorem GP {rs:List Int}{g:Int}{ts:List Tr}{O:List (List Nat)}(C:Ctx rs g ts)(H:Ords rs.length ts O):∀v∈aG ts,∀u∈sB rs g ts O v,1≤u.2∧u.1∈aG ts:=by
 intro v hv u hu;obtain⟨t,ht,hs⟩:=mem_visits.mp hv;have hg:Good rs.length t:=C.tr t (mem_of_getElem? ht)
 rcases mem_append.mp hu with z|z
 ·obtain⟨a,ha,e⟩:=(vo ht).mp z;subst e;have ha':=(cA ha).1;exact⟨(iS C.ln (cP hg a ha')).1,mem_visits.mpr ⟨t,ht,ha'⟩⟩
 ·obtain⟨a,ha,e⟩:=mem_wO.mp z;subst e;have hlt:=cP hg v.2 hs;have h1:=(iS C.ln hlt).1;have h2:=C.ln.gap.1;exact⟨by show 1≤rs.getD v.2 0+g;omega,(H.mem v.2 a hlt).mp (cA ha).1⟩
theorem rC {rs:List Int}:∀{l:List (Nat×Int)} {r:Int},inT rs r l=true→(∀u,l.head?=some u→r≤u.2)∧∀x∈l.zip l.tail,x.1.2+rs.getD x.1.1 0≤x.2.2
 | [],r,_=>⟨fun u h=>(nomatch h),fun x h=>(nomatch h)⟩
 | [a],r,h=>by
  have h':(!decide (a.2<r)&&inT rs _ [])=true:=h;rw[and_eq_true]at h';have:=h'.1;exact⟨fun u e=>(by cases e;simpa using this),fun x h=>(nomatch h)⟩
 |a::b::l,r,h=>by
  have h':(!decide (a.2<r)&&inT rs (a.2+rs.getD a.1 0) (b::l))=true:=h;rw[and_eq_true]at h';obtain⟨i1,i2⟩:=rC h'.2;refine⟨fun u e=>by cases e;simpa using h'.1,fun x hx=>?_⟩
  rcases mem_cons.mp hx with z|z
  ·subst z;exact i1 b rfl
  ·exact i2 x z
theorem Bx {w:List Nat}{row:List Int}(hl:row.length=w.length){a b:Nat}(h:(a,b)∈w.zip w.tail):∃i m m',w[i]?=some a∧w[i+1]?=some b∧row[i]?=some m∧row[i+1]?=some m'∧((a,m),(b,m'))∈(w.zip row).zip (w.zip row).tail:=by
 obtain⟨i,hi⟩:=List.getElem?_of_mem h;obtain⟨h1,h2⟩:=getElem?_zip_eq_some.mp hi;rw[List.getElem?_tail]at h2;have l1:=(cU h1).1;have l2:=(cU h2).1;dsimp only at h1 h2;have r1:row[i]?=some row[i]:=cz (by omega);have r2:row[i+1]?=some row[i+1]:=cz (by omega);refine(nC i (row[i]) (row[i+1]) h1 h2 r1 r2 (mem_of_getElem? (i:=i) (getElem?_zip_eq_some.mpr ⟨getElem?_zip_eq_some.mpr ⟨h1,r1⟩,?_⟩)));rw[List.getElem?_tail];exact getElem?_zip_eq_some.mpr ⟨h2,r2⟩
theorem su {rs:List Int}{g:Int}{ts:List Tr}{T:Pl}{O:List (List Nat)}(C:Ctx rs g ts)(Kp:Keeps rs g ts T)(H:Ords rs.length ts O)(hs:∀s,s<rs.length→∀u∈(O.getD s []).zip (O.getD s []).tail,gK ts T (u.1,s)≤gK ts T (u.2,s)):Sol (aG ts) (sB rs g ts O) (ka ts) (gK ts T):=by
 have step:∀v∈aG ts,∀u∈sB rs g ts O v,gK ts T u.1+u.2≤gK ts T v:=by
  intro v hv u hu;obtain⟨t,A,hsv⟩:=mem_visits.mp hv;have hg:Good rs.length t:=C.tr t (mem_of_getElem? A);have hq:(t,v.1)∈ts.zipIdx:=mem_zip.mpr A
  rcases mem_append.mp hu with z|z
  ·refine cps fun PP kP=>?_;obtain⟨a,ha,e⟩:=(vo A).mp z;subst e;refine ie (Bx (Kp.row _ hq) ha) fun i m m' e1 e2 e3 e4 hz=>?_;refine kP ?_;clear kP PP;have h1:=(rC (Kp.tm _ hq)).2 _ hz;have h2:gK ts T (v.1,a)=m:=nE A e1 e3;have h3:gK ts T (v.1,v.2)=m':=nE A e2 e4;rw[h2];show m+rs.getD a 0≤gK ts T (v.1,v.2);rw[h3];exact h1
  ·obtain⟨a,ha,e⟩:=mem_wO.mp z;subst e;have c:=cP hg v.2 hsv;have hz:=cA ha;have ha':=(H.mem v.2 a c).mp hz.1;have h1:gK ts T (a,v.2)≤gK ts T v:=hs v.2 c _ ha;have h2:=Kp.ap v.2 c _ (oU (v:=(a,v.2)) Kp.row ha') _ (oU (v:=v) Kp.row hv) (fun z=>by
    dsimp only at z;have:=(qO (H.nd v.2) _ ha).2.2;exact this z)
   have h3:=(iS C.ln c).1;have h4:=C.ln.gap.1;unfold apart at h2;dsimp only at h1 h2 ⊢
   rcases h2 with y|y
   ·omega
   ·omega
 refine⟨fun v hv=>?_,step⟩;refine cps fun PP kP=>?_;obtain⟨t,A,hsv⟩:=mem_visits.mp hv;obtain⟨i,hi,e⟩:=getElem_of_mem hsv;refine kP ?_;clear kP PP;have hg:Good rs.length t:=C.tr t (mem_of_getElem? A);have hq:(t,v.1)∈ts.zipIdx:=mem_zip.mpr A;have hr:ka ts v=t.2.2:=by unfold ka;rw[A]
 rw[hr];have hrow:=Kp.row _ hq;have go:∀(i s:Nat),(aq t)[i]?=some s→t.2.2≤gK ts T (v.1,s):=by
  intro i
  induction i with
  |zero=>
   intro s hs0;have hl:0<(aj T v.1).length:=by have:=(cU hs0).1;dsimp only at hrow;omega
   have r0:(aj T v.1)[0]?=some (aj T v.1)[0]:=cz hl;rw[nE A hs0 r0];have h1:=(rC (Kp.tm _ hq)).1 (s,(aj T v.1)[0]) (by
    rw[List.head?_eq_getElem?];exact getElem?_zip_eq_some.mpr ⟨hs0,r0⟩)
   exact h1
  |succ i ih=>
   intro s hs1;have hl:=(cU hs1).1;have h0:(aq t)[i]?=some (aq t)[i]:=cz (by omega);have h1:=ih _ h0;have hz:((aq t)[i],s)∈(aq t).zip (aq t).tail:=mem_of_getElem? (i:=i) (getElem?_zip_eq_some.mpr ⟨h0,by rw[List.getElem?_tail];exact hs1⟩);have hm:((v.1,(aq t)[i]),rs.getD (aq t)[i] 0)∈sB rs g ts O (v.1,s):=mem_append_left _ ((vo (v:=(v.1,s)) A).mpr ⟨_,hz,rfl⟩);have h2:=step (v.1,s) (mem_visits.mpr ⟨t,A,mem_of_getElem? hs1⟩) _ hm;have h3:=(iS C.ln (cP hg _ (mem_of_getElem? h0))).1;dsimp only at h2;omega
 have:=go i v.2 (by rw[cz hi,e]);exact this
section
variable{K:W.Frag}{CL:Addr}
noncomputable def iL (ts:List Tr)(T:Pl)(s:Nat):List (List Int):=(cc ts T s).map fun e=>[e.1,(e.2:Int)]
open Classical in
noncomputable def i8 (L:List (List Int)):List (List Int):=if h:∃l:List (List Int),b7 [.lst (L.map aQ)]= .ok (.lst (l.map aQ)) then Classical.choose h else []
theorem w9 {L l:List (List Int)}(h:b7 [.lst (L.map aQ)]= .ok (.lst (l.map aQ))):b7 [.lst (L.map aQ)]= .ok (.lst ((i8 L).map aQ))∧(i8 L).map aQ=l.map aQ:=by
 have hx:∃l:List (List Int),b7 [.lst (L.map aQ)]= .ok (.lst (l.map aQ)):=⟨l,h⟩;have e:i8 L=Classical.choose hx:=by unfold i8;rw[dif_pos hx]
 have hc:=Classical.choose_spec hx;rw[←e]at hc;refine⟨hc,?_⟩;rw[h]at hc;injection hc with z
 injection z with z
 exact z.symm
theorem uz {l l':List (List Int)}(h:l.map aQ=l'.map aQ):l=l':=by
 induction l generalizing l' with
 |nil=>cases l' with
  |nil=>rfl
  |cons a r=>cases h
 |cons a r ih=>cases l' with
  |nil=>cases h
  |cons b r'=>
   rw[map_cons,map_cons]at h;injection h with h1 h2
   rw[ih h2];have:a=b:=by
    unfold aQ at h1;injection h1 with h1
    clear h2 ih
    induction a generalizing b with
    |nil=>cases b with
     |nil=>rfl
     |cons _ _=>cases h1
    |cons x a ih=>cases b with
     |nil=>cases h1
     |cons y b=>
      rw[map_cons,map_cons]at h1;injection h1 with h1 h2
      injection h1 with h1
      rw[h1,ih b h2]
   rw[this]
theorem uR {ts:List Tr}{p:Pl}{s:Nat}(hlen:p.length=ts.length)(hb:∀r∈p,r.length≤1000)(ht:ts.length≤5) :
  aU K CL [.lst (ts.map ao),.lst (p.map am),.int s]= .ok (.lst ((i8 (iL ts p s)).map aQ))∧b7 [.lst ((iL ts p s).map aQ)]= .ok (.lst ((i8 (iL ts p s)).map aQ))∧(i8 (iL ts p s)).length≤5∧(∀t,t∈i8 (iL ts p s)↔t∈iL ts p s):=by
 refine GU (lU (K:=K) (CL:=CL) (s:=s) hlen hb ht) fun l h1 h2 h3 h4 h5 h6=>?_;obtain⟨e1,e2⟩:=w9 h6;have e3:=uz e2;have e4:i8 (iL ts p s)=l:=e3;rw[e4];exact(m3 h1 h6 h2 h3)
noncomputable def yj (ts:List Tr)(T:Pl)(s:Nat):List Int:=(i8 (iL ts T s)).map fun t=>t.getD 1 0
theorem BN {ts:List Tr}{T:Pl}{s:Nat}{t:List Int}(h:t∈iL ts T s):∃a b,t=[a,b]:=by
 obtain⟨e,_,rfl⟩:=mem_map.mp h;exact⟨_,_,rfl⟩
theorem FC {t:List Int}(h:∃a b,t=[a,b]):aL (aQ t) (.int 1)= .ok (.int (t.getD 1 0)):=by
 obtain⟨a,b,rfl⟩:=h;exact fA rfl
theorem vx {ts:List Tr}{p:Pl}{s:Nat}(hlen:p.length=ts.length)(hb:∀r∈p,r.length≤1000)(ht:ts.length≤5):fJ K CL [.lst (ts.map ao),.lst (p.map am),.int s]= .ok (am (yj ts p s)):=by
 refine mE (uR (K:=K) (CL:=CL) (s:=s) hlen hb ht) fun h1 h2 h3 h4=>?_;unfold fJ;refine(bu rfl).trans ?_;have e0:aC iw [.lst (ts.map ao),.lst (p.map am),.int s]=[some (.lst (ts.map ao)),some (.lst (p.map am)),some (.int s)]:=rfl;rw[e0];unfold ik;rw[lV,bf (xs:=i8 (iL ts p s)) (c:=aQ) (g:=fun t=>D.int (t.getD 1 0)) (by simp only[aJ,h1]) (by omega) (fun t ht=>⟨_,rfl,?_⟩)]
 ·unfold am yj;rw[map_map];rfl
 ·have:=FC (BN ((h4 t).mp ht));simp only[aJ];exact this
theorem JW {w:List Nat}{n:Nat}:plL n (aV w)=true:=rX w fun _ _=>fT
theorem nr {a b:Nat}:bW (.int (a:Int)) (.int (b:Int))=decide (a=b):=by
 unfold bW;by_cases h:a=b
 ·subst h;simp
 ·rw[decide_eq_false h];simp;omega
theorem JV {w:List Nat}{s:Nat}:uH false (.int (s:Int)) (.lst (aV w))= .ok (.bl (decide (s∈w))):=by
 unfold uH;dsimp only;rw[if_pos ⟨JW,fT⟩];congr 2;unfold aV;rw[if_neg Bool.false_ne_true,any_map];by_cases h:s∈w
 ·rw[decide_eq_true h,List.any_eq_true];exact⟨s,h,by show bW _ _=true;rw[nr];simp⟩
 ·rw[decide_eq_false h,List.any_eq_false];intro x hx;show ¬bW _ _=true;rw[nr];simp;exact fun z=>h (z ▸ hx)
end
theorem jZ {ts:List Tr}{p:Pl}{s:Nat}(hlen:p.length=ts.length)(hb:∀r∈p,r.length≤1000)(ht:ts.length≤5):(i8 (iL ts p s)).length≤5∧(∀t,t∈i8 (iL ts p s)↔t∈iL ts p s)∧(i8 (iL ts p s)).Nodup∧∀u∈(i8 (iL ts p s)).zip (i8 (iL ts p s)).tail,HT.aK u.2 u.1=false:=by
 refine GU (lU (K:=[]) (CL:=0) (s:=s) hlen hb ht) fun l h1 h2 h3 h4 h5 h6=>?_;obtain⟨e1,e2⟩:=w9 h6;have e4:i8 (iL ts p s)=l:=uz e2;rw[e4];exact(m3 h2 h3 h4 h5)
noncomputable def oW (ts:List Tr)(T:Pl)(s:Nat):List Nat:=(yj ts T s).map Int.toNat
theorem CS {ts:List Tr}{T:Pl}{s:Nat}(hlen:T.length=ts.length)(hb:∀r∈T,r.length≤1000)(ht:ts.length≤5):am (yj ts T s)= .lst (aV (oW ts T s)):=by
 refine mE (jZ (s:=s) hlen hb ht) fun h1 h2 h3 h4=>?_;unfold am aV oW yj;rw[map_map,map_map,map_map];congr 1;refine map_congr_left fun t m=>?_;obtain⟨e,_,rfl⟩:=mem_map.mp ((h2 t).mp m);show D.int ((e.2:Nat):Int)=D.int (((e.2:Nat):Int).toNat:Int);rw[toNat_natCast]
theorem oX {ts:List Tr}{T:Pl}{s:Nat}:oW ts T s=(i8 (iL ts T s)).map fun t=>(t.getD 1 0).toNat:=by unfold oW yj;rw[map_map];rfl
theorem lc {ts:List Tr}{T:Pl}{s:Nat}{t:List Int}(h:t∈iL ts T s):((t.getD 1 0).toNat,s)∈aG ts∧t=[gK ts T ((t.getD 1 0).toNat,s),((t.getD 1 0).toNat:Int)]:=by
 obtain⟨e,he,rfl⟩:=mem_map.mp h;have h1:=s0 he;have e2:([e.1,(e.2:Int)].getD 1 0).toNat=e.2:=by show ((e.2:Nat):Int).toNat=e.2;rw[toNat_natCast]
 rw[e2];exact⟨h1.1,by rw[h1.2]⟩
theorem zZ {ts:List Tr}{T:Pl}{s:Nat}(hlen:T.length=ts.length)(hb:∀r∈T,r.length≤1000)(ht:ts.length≤5)(hr:∀q∈ts.zipIdx,(aj T q.2).length=(aq q.1).length)(k:Nat):k∈oW ts T s↔(k,s)∈aG ts:=by
 refine mE (jZ (s:=s) hlen hb ht) fun h1 h2 h3 h4=>?_;rw[oX,mem_map];constructor
 ·intro hZ43;obtain⟨t,m,rfl⟩:=hZ43;exact(lc ((h2 t).mp m)).1
 ·intro h;refine⟨[gK ts T (k,s),(k:Int)],(h2 _).mpr (mem_map.mpr ⟨_,oU hr h,rfl⟩),?_⟩;show ((k:Nat):Int).toNat=k;rw[toNat_natCast]
theorem vt {ts:List Tr}{T:Pl}{s:Nat}(hlen:T.length=ts.length)(hb:∀r∈T,r.length≤1000)(ht:ts.length≤5):(oW ts T s).Nodup:=by
 refine mE (jZ (s:=s) hlen hb ht) fun h1 h2 h3 h4=>?_;rw[oX,nodup_iff_pairwise_ne,pairwise_map];refine(nodup_iff_pairwise_ne.mp h3).imp_of_mem fun {a b} ha hb hne e=>hne ?_;have ea:=(lc ((h2 a).mp ha)).2;have eb:=(lc ((h2 b).mp hb)).2;rw[ea,eb,e]
theorem ur {ts:List Tr}{T:Pl}{s:Nat}(hlen:T.length=ts.length)(hb:∀r∈T,r.length≤1000)(ht:ts.length≤5):∀u∈(oW ts T s).zip (oW ts T s).tail,gK ts T (u.1,s)≤gK ts T (u.2,s):=by
 refine mE (jZ (s:=s) hlen hb ht) fun h1 h2 h3 h4=>?_;rw[oX,←map_tail,zip_map];intro u hu;obtain⟨x,hx,rfl⟩:=mem_map.mp hu;have m:=cA hx;have ea:=(lc ((h2 _).mp m.1)).2;have eb:=(lc ((h2 _).mp m.2)).2;have:=h4 x hx;rw[ea,eb]at this;exact tT this
noncomputable def OO (n:Nat)(ts:List Tr)(T:Pl):List (List Nat):=(List.range n).map (oW ts T)
theorem yU {n:Nat}{ts:List Tr}{T:Pl}{s:Nat}(h:s<n):(OO n ts T).getD s []=oW ts T s:=by
 unfold OO;rw[getD_eq_getElem?_getD,getElem?_map,List.getElem?_range h];rfl
theorem Hc {n:Nat}{ts:List Tr}{T:Pl}{s:Nat}(h:¬s<n):(OO n ts T).getD s []=[]:=by
 unfold OO;rw[getD_eq_getElem?_getD,getElem?_eq_none (by rw[length_map,length_range];omega)];rfl
theorem wC {n:Nat}{ts:List Tr}{T:Pl}(hlen:T.length=ts.length)(hb:∀r∈T,r.length≤1000)(ht:ts.length≤5)(hr:∀q∈ts.zipIdx,(aj T q.2).length=(aq q.1).length):Ords n ts (OO n ts T) where
 len:=by unfold OO;rw[length_map,length_range]
 nd:=fun s=>by
  by_cases h:s<n
  ·rw[yU h];exact vt hlen hb ht
  ·rw[Hc h];exact nodup_nil
 mem:=fun s k h=>by rw[yU h];exact zZ hlen hb ht hr k
theorem Keeps.bound {rs:List Int}{g:Int}{ts:List Tr}{T:Pl}(C:Ctx rs g ts)(Kp:Keeps rs g ts T):∀r∈T,r.length≤1000:=fun r hr=>by
 obtain⟨k,hk,e⟩:=getElem_of_mem hr;have hk':k<ts.length:=by rw[←Kp.len];exact hk
 have hz:(ts[k],k)∈ts.zipIdx:=mem_zip.mpr (cz hk');have h1:=Kp.row _ hz;have h2:=eL (C.good hz);have h3:=C.ln.few;have h4:aj T k=r:=by
  have:=ce hk;rw[cz hk,e]at this;exact(Option.some.inj this).symm
 dsimp only at h1 h2;rw[h4]at h1;omega
theorem GH {rs:List Int}{g:Int}{ts:List Tr}{T:Pl}(C:Ctx rs g ts)(Kp:Keeps rs g ts T):Sol (aG ts) (sB rs g ts (OO rs.length ts T)) (ka ts) (gK ts T):=
 su C Kp (wC Kp.len (Kp.bound C) C.few Kp.row) fun s hs=>by rw[yU hs];exact ur Kp.len (Kp.bound C) C.few
section
variable{K:W.Frag}{CL:Addr}
theorem Keeps.isT {rs:List Int}{g:Int}{ts:List Tr}{T:Pl}(C:Ctx rs g ts)(Kp:Keeps rs g ts T):gq K CL [av CL rs g,.lst (ts.map br),.lst (T.map am)]= .ok (.bl true):=by
 rw[zN C (by rw[Kp.len];have:=C.few;omega) (Kp.bound C)];have h1:kT ts T=true:=by
  unfold kT;refine decide_eq_true (ext_getElem? fun i=>?_);rw[getElem?_map,getElem?_map];by_cases h:i<ts.length
  ·have hz:(ts[i],i)∈ts.zipIdx:=mem_zip.mpr (cz h);have:=Kp.row _ hz;rw[cz h,ce (by rw[Kp.len];exact h)];exact congrArg (fun (x:Nat)=>some (x:Int)) this
  ·rw[getElem?_eq_none (by rw[Kp.len];omega),getElem?_eq_none (by omega)];rfl
 have h2:kA rs ts T=true:=by unfold kA;rw[all_eq_true];exact Kp.tm
 have h3:nV rs g ts T=true:=apAll_iff.mpr Kp.ap;rw[h1,h2,h3];rfl
theorem pL {rs:List Int}{g:Int}{ts:List Tr}{T:Pl}(C:Ctx rs g ts)(Kp:Keeps rs g ts T):cF K CL [av CL rs g,.lst (ts.map br),.lst (T.map am)]= .ok .non:=by
 unfold cF;refine(bu rfl).trans ?_;have e0:aC gz [av CL rs g,.lst (ts.map br),.lst (T.map am)]=[some (av CL rs g),some (.lst (ts.map br)),some (.lst (T.map am))]:=rfl;rw[e0];unfold ee;simp only[aJ,Kp.isT C]
noncomputable def fX (O:List (List Nat)):D:=.lst (O.map fun o=>.lst (aV o))
theorem t7 {rs:List Int}{g:Int}{ts:List Tr}{T:Pl}(C:Ctx rs g ts)(Kp:Keeps rs g ts T):eG K CL [av CL rs g,.lst (ts.map br),.lst (T.map am)]= .ok (fX (OO rs.length ts T)):=by
 unfold eG;refine(bu rfl).trans ?_;have e0:aC gc [av CL rs g,.lst (ts.map br),.lst (T.map am)]=[some (av CL rs g),some (.lst (ts.map br)),some (.lst (T.map am)),none]:=rfl;rw[e0];unfold gb;have hn:rs.length≤1000:=by have:=C.ln.few;omega
 simp only[aJ,pL C Kp,nR C.tr hn C.one C.few];rw[bf (xs:=List.range rs.length) (c:=fun (i:Nat)=>D.int (i:Int)) (g:=fun s=>.lst (aV (oW ts T s))) (by simp only[aJ,Fz,d7,eV (n:=rs.length) (by omega)]) (by rw[length_range];omega) (fun s hs=>⟨_,rfl,?_⟩)]
 ·unfold fX OO;rw[map_map];rfl
 ·have:=vx (K:=K) (CL:=CL) (s:=s) Kp.len (Kp.bound C) C.few;rw[CS Kp.len (Kp.bound C) C.few]at this;simp only[aJ];exact this
end
noncomputable def jR (v:Vt):List bF:=[.inl (v.1:Int),.inl (v.2:Int)]
noncomputable def vD (v:Vt):D:=.tup [.int (v.1:Int),.int (v.2:Int)]
noncomputable def wD (u:Vt×Int):D:=.tup [vD u.1,.int u.2]
noncomputable def lW (W:Vt→List (Vt×Int))(v:Vt):D:=.lst ((W v).map wD)
noncomputable def dW (vs:List Vt)(W:Vt→List (Vt×Int)):D:=.dct (vs.map jR) (vs.map (lW W))
noncomputable def fW (vs:List Vt)(W:Vt→List (Vt×Int)):D:=.fdc (vs.map jR) (vs.map (lW W))
theorem rJ {a b:Vt}(h:jR a=jR b):a=b:=by
 unfold jR at h;injection h with h1 h2
 injection h1 with h1
 injection h2 with h2
 injection h2 with h2
 exact Prod.ext (by omega) (by omega)
theorem oJ {v:Vt}:g0 [.int (v.1:Int),.int (v.2:Int)]=some (jR v):=rfl
theorem zO {vs:List Vt}{v:Vt}(h:v∉vs):cn (vs.map jR) (jR v)=none:=by
 unfold cn;rw[List.findIdx?_eq_none_iff];intro k hk;obtain⟨u,hu,rfl⟩:=mem_map.mp hk;exact decide_eq_false fun z=>h (rJ z ▸ hu)
theorem xZ {vs:List Vt}{v:Vt}(h:v∈vs):∃m,cn (vs.map jR) (jR v)=some m∧vs[m]?=some v:=by
 cases q:cn (vs.map jR) (jR v) with
 |none=>
  unfold cn at q;rw[List.findIdx?_eq_none_iff]at q;have:=q (jR v) (List.mem_map_of_mem h);simp at this
 |some m=>
  refine⟨m,rfl,?_⟩;unfold cn at q;obtain⟨h1,h2,_⟩:=List.findIdx?_eq_some_iff_getElem.mp q;rw[getElem_map]at h2;rw[length_map]at h1;rw[cz h1,rJ (of_decide_eq_true h2)]
theorem vU {f:Vt→D}:∀{vs:List Vt} {v:Vt},v∈vs→sx (vs.map jR) (vs.map f) (jR v)=some (f v)
 |a::vs,v,h=>by
  rw[map_cons,map_cons];unfold sx;by_cases e:a=v
  ·subst e;rw[if_pos rfl]
  ·rw[if_neg (fun z=>e (rJ z))]
   rcases mem_cons.mp h with z|z
   ·exact absurd z.symm e
   ·exact vU z
theorem uQ {f:Vt→D}{vs:List Vt}{v:Vt}(h:v∈vs):cB (.fdc (vs.map jR) (vs.map f)) (vD v)= .ok (f v):=by
 show k_ (vs.map jR) (vs.map f) [.int (v.1:Int),.int (v.2:Int)]=_;unfold k_;rw[oJ];dsimp only;rw[vU h]
theorem EJ {f:Vt→D}{vs:List Vt}{v:Vt}(h:v∈vs):cB (.dct (vs.map jR) (vs.map f)) (vD v)= .ok (f v):=by
 show k_ (vs.map jR) (vs.map f) [.int (v.1:Int),.int (v.2:Int)]=_;unfold k_;rw[oJ];dsimp only;rw[vU h]
theorem wV {f:Vt→D}{vs:List Vt}{v:Vt}(h:v∉vs):m8 (vs.map jR) (vs.map f) (jR v) (f v)= .dct ((vs ++ [v]).map jR) ((vs ++ [v]).map f):=by
 unfold m8;rw[zO h];simp only[map_append,map_cons,map_nil]
noncomputable def cY (E:List (Vt×Vt×Int))(v:Vt):List (Vt×Int):=E.filterMap fun e=>if e.1=v then some e.2 else none
theorem nS {E F:List (Vt×Vt×Int)}{v:Vt}:cY (E ++ F) v=cY E v ++ cY F v:=List.filterMap_append ..
theorem v6 {E:List (Vt×Vt×Int)}{v:Vt}(h:∀e∈E,e.1≠v):cY E v=[]:=by
 unfold cY;rw[List.filterMap_eq_nil_iff];intro e he;rw[if_neg (h e he)]
theorem sJ {E:List (Vt×Vt×Int)}{v:Vt}:(cY E v).length≤E.length:=List.length_filterMap_le ..
theorem EE {vs:List Vt}{E:List (Vt×Vt×Int)}{v:Vt}{u:Vt×Int}{m:Nat}(nd:vs.Nodup)(h:vs[m]?=some v):bK [m] (dW vs (cY E)) (.lst ((cY E v).map wD ++ [wD u]))=dW vs (cY (E ++ [(v,u)])):=by
 have hk:(vs.map (lW (cY E)))[m]?=some (lW (cY E) v):=by rw[getElem?_map,h];rfl
 unfold bK dW;simp only[bG,hk,eN,bK];congr 1;refine ext_getElem? fun i=>?_;rw[getElem?_set,getElem?_map];by_cases hi:m=i
 ·subst hi;have hl:m<(vs.map (lW (cY E))).length:=(cU hk).1;rw[if_pos rfl,if_pos hl,getElem?_map,h];show some _=some (lW (cY (E ++ [(v,u)])) v);unfold lW;rw[nS];have:cY [(v,u)] v=[u]:=by unfold cY;rw[List.filterMap_cons_some (b:=u) (by rw[if_pos rfl])];rfl
  rw[this,map_append];rfl
 ·rw[if_neg hi,getElem?_map];cases q:vs[i]? with
  |none=>rfl
  |some x=>
   show some (lW _ x)=some (lW _ x);have hx:x≠v:=fun z=>hi ((List.getElem?_inj (cU h).1 nd).mp (by rw[h,q,z]));have:cY [(v,u)] x=[]:=v6 fun e he=>by rw[mem_singleton.mp he];exact fun z=>hx z.symm
   unfold lW;rw[nS,this,append_nil]
theorem Ft {vs:List Vt}{W:Vt→List (Vt×Int)}{v:Vt}{m:Nat}(h:vs[m]?=some v):bV [m] (dW vs W)=some (.lst ((W v).map wD)):=by
 have hk:(vs.map (lW W))[m]?=some (lW W v):=by rw[getElem?_map,h];rfl
 unfold bV dW;simp only[bG,hk,bV];rfl
noncomputable def qY (rs:List Int)(k:Nat)(us:List (Nat×Nat)):List (Vt×Vt×Int):=us.map fun u=>((k,u.2),(k,u.1),rs.getD u.1 0)
noncomputable def wj (rs:List Int)(qs:List Q):List (Vt×Vt×Int):=qs.flatMap fun q=>qY rs q.2 ((aq q.1).zip (aq q.1).tail)
noncomputable def qW (rs:List Int)(g:Int)(s:Nat)(us:List (Nat×Nat)):List (Vt×Vt×Int):=us.map fun u=>((u.2,s),(u.1,s),rs.getD s 0+g)
noncomputable def Bq (rs:List Int)(g:Int)(os:List (List Nat×Nat)):List (Vt×Vt×Int):=os.flatMap fun o=>qW rs g o.2 (o.1.zip o.1.tail)
noncomputable def i_ (qs:List Q):List Vt:=qs.flatMap fun q=>(aq q.1).map fun s=>(q.2,s)
theorem Bn {α:Type}{l:List α}:l.zipIdx.Pairwise fun a b=>a.2≠b.2:=by
 have:(l.zipIdx.map Prod.snd).Nodup:=by rw[zipIdx_map_snd];exact List.nodup_range'
 rw[nodup_iff_pairwise_ne,pairwise_map]at this;exact this
theorem qk {α β:Type}{l:List α}{f:α×Nat→List β}{k:Nat}{x:α}(hx:l[k]?=some x)(h:∀q∈l.zipIdx,q.2≠k→f q=[]):l.zipIdx.flatMap f=f (x,k):=by
 obtain⟨a,b,e⟩:=List.append_of_mem (show (x,k)∈l.zipIdx from mem_zip.mpr hx);have pw:=Bn (l:=l);rw[e]at pw h ⊢;obtain⟨_,p2,p3⟩:=List.pairwise_append.mp pw;have ha:a.flatMap f=[]:=List.flatMap_eq_nil_iff.mpr fun q hq=>h q (mem_append_left _ hq) (p3 q hq (x,k) (mem_cons_self ..));have hb:b.flatMap f=[]:=List.flatMap_eq_nil_iff.mpr fun q hq=>h q (mem_append_right _ (cR hq)) (fun z=>(pairwise_cons.mp p2).1 q hq z.symm);rw[flatMap_append,flatMap_cons,ha,hb,List.nil_append,append_nil]
theorem v8 {rs:List Int}{g:Int}{ts:List Tr}{O:List (List Nat)}{v:Vt}(hv:v∈aG ts)(hs:v.2<O.length):cY (wj rs ts.zipIdx ++ Bq rs g O.zipIdx) v=sB rs g ts O v:=by
 obtain⟨t,ht,_⟩:=mem_visits.mp hv;rw[nS];unfold sB;congr 1
 ·unfold cY wj;rw[List.filterMap_flatMap,qk ht]
  ·unfold wP qY;rw[ht];dsimp only;rw[filterMap_map];congr 1;funext u;show (if (v.1,u.2)=v then _ else _)=_
   by_cases z:u.2=v.2
   ·rw[if_pos z,if_pos (show (v.1,u.2)=v from Prod.ext rfl z)]
   ·have hz:¬(v.1,u.2)=v:=fun y=>z (by have:=congrArg (fun x:Vt=>x.2) y;exact this);rw[if_neg z,if_neg hz]
  ·intro q _ hq;unfold qY;rw[filterMap_map,List.filterMap_eq_nil_iff];intro u _;show (if (q.2,u.2)=v then _ else _)=_
   rw[if_neg (show ¬(q.2,u.2)=v from fun y=>hq (congrArg Prod.fst y))]
 ·unfold cY Bq;rw[List.filterMap_flatMap,qk (gl (d:=[]) hs)]
  ·unfold wO qW;rw[filterMap_map];congr 1;funext u;show (if (u.2,v.2)=v then _ else _)=_
   by_cases z:u.2=v.1
   ·rw[if_pos z,if_pos (show (u.2,v.2)=v from Prod.ext z rfl)]
   ·rw[if_neg z,if_neg (show ¬(u.2,v.2)=v from fun y=>z (congrArg Prod.fst y))]
  ·intro q _ hq;unfold qW;rw[filterMap_map,List.filterMap_eq_nil_iff];intro u _;show (if (u.2,q.2)=v then _ else _)=_
   rw[if_neg (show ¬(u.2,q.2)=v from fun y=>hq (congrArg Prod.snd y))]
section
variable{K:W.Frag}{CL:Addr}
noncomputable def gI (ts:List Tr)(s:Nat):List Nat:=(ts.zipIdx.filter fun q=>decide (s∈aq q.1)).map fun q=>q.2
theorem going_mem {ts:List Tr}{s k:Nat}:k∈gI ts s↔(k,s)∈aG ts:=by
 unfold gI;rw[mem_map,mem_visits];constructor
 ·intro hZ44;obtain⟨q,hq,rfl⟩:=hZ44;obtain⟨h1,h2⟩:=mem_filter.mp hq;exact⟨q.1,mem_zip.mp h1,of_decide_eq_true h2⟩
 ·intro hZ45;obtain⟨t,ht,h⟩:=hZ45;exact⟨(t,k),mem_filter.mpr ⟨mem_zip.mpr ht,decide_eq_true h⟩,rfl⟩
theorem going_lt {ts:List Tr}{s:Nat}:(gI ts s).Pairwise (· < ·):=by
 unfold gI;have h:(ts.zipIdx.map Prod.snd).Pairwise (· < ·):=by rw[zipIdx_map_snd];exact List.pairwise_lt_range'
 exact h.sublist (List.filter_sublist.map _)
theorem vN {n:Nat}{ts:List Tr}{O:List (List Nat)}(H:Ords n ts O){s:Nat}(hs:s<n)(h5:ts.length≤5):mz [.lst (aV (O.getD s []))]= .ok (.lst (aV (gI ts s))):=by
 have hl:(O.getD s []).length≤ts.length:=by
  have:=hX (vs:=List.range ts.length) (H.nd s) fun k hk=>by
   obtain⟨t,ht,_⟩:=mem_visits.mp ((H.mem s k hs).mp hk);exact mem_range.mpr (cU ht).1
  rwa[length_range]at this
 have e1:aV (O.getD s [])=((O.getD s []).map fun (k:Nat)=>(k:Int)).map D.int:=by unfold aV;rw[map_map];rfl
 have e2:aV (gI ts s)=((gI ts s).map fun (k:Nat)=>(k:Int)).map D.int:=by unfold aV;rw[map_map];rfl
 unfold mz;dsimp only;rw[e1,gi];dsimp only;rw[if_pos (by rw[length_map];omega),e2];congr 3;refine nX ((mD _).trans (List.Perm.map _ ?_)) (ut _) ?_
 ·exact(List.perm_ext_iff_of_nodup (H.nd s) (going_lt.imp fun {a b} h=>by omega)).mpr fun k=>(H.mem s k hs).trans going_mem.symm
 ·rw[pairwise_map];exact going_lt.imp fun {a b} h=>by omega
theorem n9 {n:Nat}{ts:List Tr}{O:List (List Nat)}(H:Ords n ts O)(hn:n≤1000)(h5:ts.length≤5)(hw:∀t∈ts,(aq t).length≤1000):bS K CL [.int (n:Int),.lst (ts.map ao),fX O]= .ok .non:=by
 unfold bS;refine(bu rfl).trans ?_;have e0:aC dh [.int (n:Int),.lst (ts.map ao),fX O]=[some (.int (n:Int)),some (.lst (ts.map ao)),some (fX O),none,none,none]:=rfl;rw[e0];unfold c_ fX;simp only[aJ,eA,H.len];obtain⟨ρ',h1,_⟩:=jX (xs:=O.zipIdx) (c:=fun q:List Nat×Nat=>D.tup [.int (q.2:Int),.lst (aV q.1)]) (asg:=eE 3 4) (F:=ax (aT 5 (bm (sE (pC (ab 1) pN)) [none,none,some 3] (eE 0 1) (f8 (ae (ab 2) (ab 1) (uH false))) (ab 0))) (i3 (f8 (ae (c1 (ab 4) mz) (ab 5) sG)) bad1 nxt)) (P:=fun _=>True)
  (ρ:=[some (.int (n:Int)),some (.lst (ts.map ao)),some (.lst (O.map fun o=>.lst (aV o))),none,none,none])
  (fun _ ρ=>∃o3 o4 o5,ρ=[some (.int (n:Int)),some (.lst (ts.map ao)),some (.lst (O.map fun o=>.lst (aV o))),o3,o4,o5]) (Fv _ _ _ rfl) (fun pre q post exs ρ hZ211=>by
   refine yK (hZ211) fun o3 o4 o5 e=>?_;subst e;refine⟨_,rfl,?_⟩;have hq:q∈O.zipIdx:=by rw[exs];simp
   have hz:=mem_zip.mp hq;have hs:q.2<n:=by rw[←H.len];exact(cU hz).1
   have e1:O.getD q.2 []=q.1:=by rw[getD_eq_getElem?_getD,hz];rfl
   have srt:=vN H hs h5;rw[e1]at srt;have cg:bm (sE (pC (ab 1) pN)) [none,none,some 3] (eE 0 1) (f8 (ae (ab 2) (ab 1) (uH false))) (ab 0) [some (.int (n:Int)),some (.lst (ts.map ao)),some (.lst (O.map fun o=>.lst (aV o))),some (.int (q.2:Int)),some (.lst (aV q.1)),o5]= .ok (.lst (aV (gI ts q.2))):=by
    rw[jk (xs:=ts.zipIdx) (c:=fun u:Q=>D.tup [.int (u.2:Int),ao u.1]) (p:=fun u=>decide (q.2∈aq u.1)) (g:=fun u=>D.int (u.2:Int)) (by simp only[aJ,eA]) (by rw[length_zipIdx];omega) (fun u hu=>(gW _ rfl ?_ (fun _=>?_)))]
    ·unfold gI aV;rw[map_map];rfl
    ·have:=JV (w:=aq u.1) (s:=q.2);show f8 (ae (ab 2) (ab 1) (uH false)) [some (.int (u.2:Int)),some (.lst (aV (aq u.1))),some (.int (q.2:Int))]=_;simp only[aJ,this]
    ·rfl
   simp only[aJ,cg,srt,rO (d:=.lst (aV (gI ts q.2))) (mv fun _ _=>fT)];exact(HR _ rfl _ _ _ rfl)) (fun _ _=>trivial)
 rw[h1];rfl
end
section
variable{K:W.Frag}{CL:Addr}
theorem sM {vs:List Vt}{E:List (Vt×Vt×Int)}{v:Vt}{u:Vt×Int}{ρ:DS}{fi f:DS→Res D}(nd:vs.Nodup)(hv:v∈vs)(hE:E.length≤100000)(h:ρ[5]?=some (some (dW vs (cY E))))(hi:fi ρ= .ok (vD v))(hf:f ρ= .ok (wD u)):qQ 5 1 (BB 5 0 (sF 5) fi) f ρ= .nx (ρ.set 5 (some (dW vs (cY (E ++ [(v,u)]))))):=by
 obtain⟨m,h1,h2⟩:=xZ hv;have key:=(BQ (g:=BB 5 0 (sF 5) fi) (f:=f) (j:=5) (n:=1) (p:=[m]) (t:=dW vs (cY E)) (rows:=(cY E v).map wD) (ES (p:=[]) (n:=0) (kd:=[.int (v.1:Int),.int (v.2:Int)]) (k:=jR v) (t:=dW vs (cY E)) (m:=m) (ks:=vs.map jR) (l:=vs.map (lW (cY E))) (q0 h) rfl hi oJ h rfl h1) hf rfl h (Ft h2) (by rw[length_map];exact le_trans sJ hE));rw[EE nd h2]at key;exact key
theorem zd {vs:List Vt}{W:Vt→List (Vt×Int)}{v:Vt}{ρ:DS}{fi f:DS→Res D}(hv:v∉vs)(hW:W v=[])(hl:vs.length≤100000)(h:ρ[5]?=some (some (dW vs W)))(hi:fi ρ= .ok (vD v))(hf:f ρ= .ok (.lst [])):lb 5 fi f ρ= .nx (ρ.set 5 (some (dW (vs ++ [v]) W))):=by
 have e:(D.lst []:D)=lW W v:=by unfold lW;rw[hW];rfl
 rw[e]at hf;rw[wk (ks:=vs.map jR) (l:=vs.map (lW W)) (k:=jR v) (kd:=[.int (v.1:Int),.int (v.2:Int)]) h hf hi oJ (by rw[length_map];exact hl),wV hv];rfl
noncomputable abbrev rW (CL:Addr)(rs:List Int)(g:Int)(ts:List Tr)(O:List (List Nat))(d:D)(o6 o7 o8 o9 o10 o11:Option D):DS:=[some (av CL rs g),some (.lst (ts.map ao)),some (fX O),some (.lst (rs.map D.int)),some (.int g),some d,o6,o7,o8,o9,o10,o11]
theorem nu {rs:List Int}:∀{qs:List Q},(∀q∈qs,(aq q.1).length≤5)→(wj rs qs).length≤5*qs.length
 | [],_=>le_refl _
 |q::qs,h=>by
  have ih:=nu (rs:=rs) (qs:=qs) fun u hu=>h u (cR hu);have h1:=h q (mem_cons_self ..);unfold wj at ih ⊢;rw[flatMap_cons,length_append,length_cons];have:(qY rs q.2 ((aq q.1).zip (aq q.1).tail)).length≤5:=by
   unfold qY;rw[length_map,length_zip];omega
  omega
theorem qX {rs:List Int}{g:Int}:∀{os:List (List Nat×Nat)},(∀o∈os,o.1.length≤5)→(Bq rs g os).length≤5*os.length
 | [],_=>le_refl _
 |q::qs,h=>by
  have ih:=qX (rs:=rs) (g:=g) (os:=qs) fun u hu=>h u (cR hu);have h1:=h q (mem_cons_self ..);unfold Bq at ih ⊢;rw[flatMap_cons,length_append,length_cons];have:(qW rs g q.2 (q.1.zip q.1.tail)).length≤5:=by
   unfold qW;rw[length_map,length_zip];omega
  omega
theorem pE:∀{qs:List Q},(∀q∈qs,(aq q.1).length≤5)→(i_ qs).length≤5*qs.length
 | [],_=>le_refl _
 |q::qs,h=>by
  have ih:=pE (qs:=qs) fun u hu=>h u (cR hu);have h1:=h q (mem_cons_self ..);unfold i_ at ih ⊢;rw[flatMap_cons,length_append,length_cons,length_map];omega
theorem visQ_mem {qs:List Q}{v:Vt}:v∈i_ qs↔∃q∈qs,q.2=v.1∧v.2∈aq q.1:=by
 unfold i_;rw[mem_flatMap];constructor
 ·intro hZ46;refine cps fun PP kP=>?_;obtain⟨q,hq,h⟩:=hZ46;obtain⟨s,hs,rfl⟩:=mem_map.mp h;refine kP ?_;clear kP PP;exact(gW q hq rfl hs)
 ·intro hZ47;refine cj (hZ47) fun q hq h1 h2=>?_;exact⟨q,hq,mem_map.mpr ⟨v.2,h2,by rw[h1]⟩⟩
theorem Bi {ts:List Tr}{pre post:List Q}(e:ts.zipIdx=pre ++ post):(i_ pre).Nodup:=by
 have:aG ts=i_ pre ++ i_ post:=by unfold aG i_;rw[e,flatMap_append]
 have h:=eW (ts:=ts);rw[this]at h;exact(nodup_append.mp h).1
theorem wB {n:Nat}{ts:List Tr}{O:List (List Nat)}(H:Ords n ts O){s:Nat}(hs:s<n):(O.getD s []).length≤ts.length:=by
 have:=hX (vs:=List.range ts.length) (H.nd s) fun k hk=>by
  obtain⟨t,ht,_⟩:=mem_visits.mp ((H.mem s k hs).mp hk);exact mem_range.mpr (cU ht).1
 rwa[length_range]at this
theorem vV {rs:List Int}{g:Int}{ts:List Tr}{O:List (List Nat)}(C:Ctx rs g ts)(H:Ords rs.length ts O):fL K CL [av CL rs g,.lst (ts.map ao),fX O]= .ok (dW (aG ts) (sB rs g ts O)):=by
 have h5:∀q∈ts.zipIdx,(aq q.1).length≤5:=fun q hq=>by
  have:=eL (C.good hq);have:=C.ln.few;omega
 have hn5:=C.ln.few;have ht5:=C.few;have hck:bS K CL [.int (rs.length:Int),.lst (ts.map ao),fX O]= .ok .non:=n9 H (by omega) C.few fun t ht=>by
  have:=eL (C.tr t ht);omega
 unfold fL;refine(bu rfl).trans ?_;have e0:aC kh [av CL rs g,.lst (ts.map ao),fX O]=[some (av CL rs g),some (.lst (ts.map ao)),some (fX O),none,none,none,none,none,none,none,none,none]:=rfl;rw[e0];unfold im;simp only[aJ,Fz,Jo,kx,d7,hck,eA];refine fU (fun pre i=>∃L A r w B E,i=rW CL rs g ts O (dW (i_ pre) (cY (wj rs pre))) L A r w B E) (CC none none none none none none rfl) (fun pre q post F i hZ212=>?_) (fun W hZ213=>?_)
 ·refine DT (hZ212) fun L A r w B E e=>?_;subst e;refine⟨_,rfl,?_⟩;have hq:q∈ts.zipIdx:=by rw[F];simp
  have hsub:∀u∈pre,u∈ts.zipIdx:=fun u I=>by rw[F];exact mem_append_left _ I
  have hne:∀u∈pre,u.2≠q.2:=fun u I=>by
   have pw:=Bn (l:=ts);rw[F]at pw;exact(List.pairwise_append.mp pw).2.2 u I q (mem_cons_self ..)
  have hpl:pre.length≤5:=by
   have:=congrArg List.length F;rw[length_zipIdx,length_append]at this;omega
  have hEl:(wj rs pre).length≤25:=by
   have:=nu (rs:=rs) (qs:=pre) fun u I=>h5 u (hsub u I);omega
  have hVl:(i_ pre).length≤25:=by
   have:=pE (qs:=pre) fun u I=>h5 u (hsub u I);omega
  have hEne:∀e∈wj rs pre,e.1.1≠q.2:=fun e he=>by
   refine cps fun PP kP=>?_;obtain⟨u,I,h⟩:=mem_flatMap.mp he;obtain⟨x,_,rfl⟩:=mem_map.mp h;refine kP ?_;clear kP PP;exact hne u I
  have hw5:=h5 q hq;have hzp:pI [ao q.1,.lst (aV (aq q.1)).tail]= .ok (((aq q.1).zip (aq q.1).tail).map fun u=>.tup [.int (u.1:Int),.int (u.2:Int)]):=by
   unfold ao aV;rw[←map_tail];exact lX
  have hcut:kR (some 1) none (ao q.1)= .ok (.lst (aV (aq q.1)).tail):=oe;have hseq:DB (ao q.1)= .ok ((aq q.1).map fun (s:Nat)=>D.int (s:Int)):=rfl;simp only[aJ,hseq];refine qz (c:=fun (s:Nat)=>D.int (s:Int)) (xs:=aq q.1) (fun ps i=>∃r w B E,i=rW CL rs g ts O (dW (i_ pre ++ ps.map fun s=>(q.2,s)) (cY (wj rs pre))) (some (.int (q.2:Int))) (some (ao q.1)) r w B E) (zI r w B E (by rw[map_nil,append_nil])) (fun ps s po G i hZ214=>?_) (fun W hZ215=>?_)
  ·refine yO (hZ214) fun r w B E e=>?_;subst e;refine⟨_,rfl,?_⟩;have nv:(q.2,s)∉i_ pre ++ ps.map fun s=>(q.2,s):=fun z=>by
    rcases mem_append.mp z with y|y
    ·refine cj (visQ_mem.mp y) fun u I h1 _=>?_;exact hne u I h1
    ·obtain⟨s',hs',e⟩:=mem_map.mp y;have e:=(Prod.mk.inj e).2;subst e;have nd:=cx (t:=q.1);rw[G]at nd;exact(nodup_append.mp nd).2.2 s' hs' s' (mem_cons_self ..) rfl
   have hpsl:ps.length≤5:=by
    have:=congrArg List.length G;rw[length_append]at this;omega
   refine⟨_,zd (v:=(q.2,s)) nv (v6 fun e he z=>hEne e he (congrArg Prod.fst z)) (by rw[length_append,length_map];omega) rfl (by simp only[aJ];rfl) (by simp only[aJ]),some (.int (s:Int)),w,B,E,?_⟩;rw[map_append,←append_assoc];rfl
  ·refine yO (hZ215) fun r w B E e=>?_;subst e;simp only[aJ,hcut,hzp];have ndv:(i_ pre ++ (aq q.1).map fun s=>(q.2,s)).Nodup:=by
    have:=Bi (pre:=pre ++ [q]) (post:=post) (by rw[F];simp);unfold i_ at this;rw[flatMap_append,flatMap_singleton]at this;exact this
   refine jX (fun us i=>∃w B,i=rW CL rs g ts O (dW (i_ pre ++ (aq q.1).map fun s=>(q.2,s)) (cY (wj rs pre ++ qY rs q.2 us))) (some (.int (q.2:Int))) (some (ao q.1)) r w B E) ⟨w,B,by unfold qY;rw[map_nil,append_nil]⟩ (fun us u po G i hZ216=>?_) (fun W hZ217=>?_)
   ·obtain⟨w,B,e⟩:=hZ216;subst e;refine⟨_,rfl,?_⟩;have I:u∈(aq q.1).zip (aq q.1).tail:=by rw[G];simp
    have J:=cA I;have hlt:u.1<rs.length:=cP (C.good hq) _ J.1;have y0:=bb (g:=D.int) (gl (d:=0) hlt);have hul:us.length≤5:=by
     have:=congrArg List.length G;rw[length_append,length_zip]at this;omega
    refine(rF _ (sM (v:=(q.2,u.2)) (u:=((q.2,u.1),rs.getD u.1 0)) ndv (mem_append_right _ (mem_map.mpr ⟨u.2,J.2,rfl⟩)) (by unfold qY;rw[length_append,length_map];omega) rfl (by simp only[aJ];rfl) (by simp only[aJ,y0];rfl)) (some (.int (u.1:Int))) (some (.int (u.2:Int))) ?_);unfold qY;rw[map_append,←append_assoc];rfl
   ·obtain⟨w,B,e⟩:=hZ217;refine(CC (some (.int (q.2:Int))) (some (ao q.1)) r w B E ?_);rw[e];unfold i_ wj;rw[flatMap_append,flatMap_singleton,flatMap_append,flatMap_singleton]
 ·refine DT (hZ213) fun L A r w B E e=>?_;subst e;have hv0:i_ ts.zipIdx=aG ts:=rfl;rw[hv0];unfold rW fX;simp only[aJ,eA];have hEl:(wj rs ts.zipIdx).length≤25:=by
   have:=nu (rs:=rs) (qs:=ts.zipIdx) h5;rw[length_zipIdx]at this;omega
  have hO5:∀o∈O.zipIdx,o.1.length≤5:=fun o ho=>by
   have J:=mem_zip.mp ho;have hs:o.2<rs.length:=by rw[←H.len];exact(cU J).1
   have:=wB H hs;have e1:O.getD o.2 []=o.1:=by rw[getD_eq_getElem?_getD,J];rfl
   rw[e1]at this;omega
  refine fU (c:=fun o:List Nat×Nat=>D.tup [.int (o.2:Int),.lst (aV o.1)]) (xs:=O.zipIdx) (fun pre i=>∃L A r w B E,i=rW CL rs g ts O (dW (aG ts) (cY (wj rs ts.zipIdx ++ Bq rs g pre))) L A r w B E) (CC L A r w B E (by unfold Bq;rw[List.flatMap_nil,append_nil];rfl)) (fun pre q post F i hZ218=>?_) (fun W hZ219=>?_)
  ·refine DT (hZ218) fun L A r w B E e=>?_;subst e;refine⟨_,rfl,?_⟩;have hq:q∈O.zipIdx:=by rw[F];simp
   have J:=mem_zip.mp hq;have hs:q.2<rs.length:=by rw[←H.len];exact(cU J).1
   have e1:O.getD q.2 []=q.1:=by rw[getD_eq_getElem?_getD,J];rfl
   have y0:=bb (g:=D.int) (gl (d:=0) hs);have hpl:pre.length≤5:=by
    have:=congrArg List.length F;rw[length_zipIdx,length_append,H.len]at this;omega
   have hOl:(Bq rs g pre).length≤25:=by
    have:=qX (rs:=rs) (g:=g) (os:=pre) fun u I=>hO5 u (by rw[F];exact mem_append_left _ I);omega
   have hzp:pI [.lst (aV q.1),.lst (aV q.1).tail]= .ok ((q.1.zip q.1.tail).map fun u=>.tup [.int (u.1:Int),.int (u.2:Int)]):=by
    unfold aV;rw[←map_tail];exact lX
   simp only[aJ,oe,hzp];refine jX (fun us i=>∃w B,i=rW CL rs g ts O (dW (aG ts) (cY (wj rs ts.zipIdx ++ Bq rs g pre ++ qW rs g q.2 us))) L A (some (.int (q.2:Int))) w B (some (.lst (aV q.1)))) ⟨w,B,by unfold qW;rw[map_nil,append_nil]⟩ (fun us u po G i hZ220=>?_) (fun W hZ221=>?_)
   ·obtain⟨w,B,e⟩:=hZ220;subst e;refine⟨_,rfl,?_⟩;have I:u∈q.1.zip q.1.tail:=by rw[G];simp
    have J:=cA I;have hul:us.length≤5:=by
     have:=congrArg List.length G;have:=hO5 q hq;rw[length_append,length_zip]at *;omega
    have hv:(u.2,q.2)∈aG ts:=(H.mem q.2 u.2 hs).mp (by rw[e1];exact J.2);refine(rF _ (sM (v:=(u.2,q.2)) (u:=((u.1,q.2),rs.getD q.2 0+g)) eW hv (by unfold qW;rw[length_append,length_append,length_map];omega) rfl (by simp only[aJ];rfl) (by simp only[aJ,y0];rfl)) (some (.int (u.1:Int))) (some (.int (u.2:Int))) ?_);unfold qW;rw[map_append,←append_assoc];rfl
   ·obtain⟨w,B,e⟩:=hZ221;refine(CC L A (some (.int (q.2:Int))) w B (some (.lst (aV q.1))) ?_);rw[e];unfold Bq;rw[flatMap_append,flatMap_singleton,←append_assoc]
  ·refine DT (hZ219) fun L A r w B E e=>?_;subst e;simp only[aJ];unfold dW;congr 2;refine map_congr_left fun v hv=>?_;obtain⟨t,ht,h2⟩:=mem_visits.mp hv;unfold lW;rw[v8 hv (by rw[H.len];exact cP (C.tr t (mem_of_getElem? ht)) _ h2)]
end
theorem Hm {a b:Vt}:bW (vD a) (vD b)=decide (a=b):=by
 unfold vD bW eqBL;rw[nr];unfold eqBL;rw[nr];unfold eqBL;rw[Bool.and_true];by_cases h:a=b
 ·subst h;simp
 ·rw[decide_eq_false h];cases q:decide (a.1=b.1) with
  |false=>rfl
  |true=>
   rw[Bool.true_and];exact decide_eq_false fun z=>h (Prod.ext (of_decide_eq_true q) z)
theorem Ix {v:Vt}:bc 19 (vD v)=true:=by
 unfold vD bc plL plL plL;rw[fT,fT];rfl
theorem Iv {t:List Vt}:plL 19 (t.map vD)=true:=rX t fun _ _=>Ix
theorem rP {t:List Vt}{v:Vt}:uH true (vD v) (.lst (t.map vD))= .ok (.bl (!t.contains v)):=by
 unfold uH;dsimp only;rw[if_pos ⟨Iv,Ix⟩,if_pos rfl,any_map];congr 3;rw[List.contains_eq_any_beq];congr 1;funext x;show bW (vD x) (vD v)=_;rw[Hm];by_cases h:x=v
 ·subst h;simp
 ·rw[decide_eq_false h];exact(beq_eq_false_iff_ne.mpr fun z=>h z.symm).symm
section
variable{K:W.Frag}{CL:Addr}{vs:List Vt}{W:Vt→List (Vt×Int)}
theorem zL {u:Vt×Int}:aL (wD u) (.int 0)= .ok (vD u.1):=fA rfl
theorem HS {u:Vt×Int}:aL (wD u) (.int 1)= .ok (.int u.2):=fA rfl
theorem xR {t:List Vt}{v:Vt}(hv:v∈vs)(hl:(W v).length≤100000):e_ K CL [fW vs W,.lst (t.map vD),vD v]= .ok (.lst (((W v).filter fun u=> !t.contains u.1).map fun u=>vD u.1)):=by
 unfold e_;refine(bu rfl).trans ?_;have e0:aC jO [fW vs W,.lst (t.map vD),vD v]=[some (fW vs W),some (.lst (t.map vD)),some (vD v)]:=rfl;rw[e0];unfold jM;have hg:cB (fW vs W) (vD v)= .ok (lW W v):=uQ hv;rw[lV,jk (xs:=W v) (c:=wD) (p:=fun u=> !t.contains u.1) (g:=fun u=>vD u.1) (by simp only[aJ,hg];rfl) hl (fun u hu=>(gW _ rfl ?_ (fun _=>?_)))]
 ·rfl
 ·show f8 (ae (ae (ab 0) (kI 0) aL) (ab 1) (uH true)) [some (wD u),some (.lst (t.map vD))]=_;simp only[aJ,zL,rP]
 ·show ae (ab 0) (kI 0) aL [some (wD u),some (.lst (t.map vD))]=_;simp only[aJ,zL]
theorem zw {t:List Vt}(hl:vs.length≤100000)(hw:∀v∈vs,(W v).length≤100000):gn K CL [fW vs W,.lst (t.map vD)]= .ok (.lst ((b8 vs W t).map vD)):=by
 unfold gn;refine(bu rfl).trans ?_;have e0:aC ni [fW vs W,.lst (t.map vD)]=[some (fW vs W),some (.lst (t.map vD))]:=rfl;rw[e0];unfold ng;have hk:tO (fW vs W)= .ok (vs.map vD):=by
  show Res.ok ((vs.map jR).map CD)=_;rw[map_map];rfl
 rw[lV,jk (xs:=vs) (c:=vD) (p:=fun v=> !t.contains v&&((W v).all fun u=>t.contains u.1)) (g:=vD) (by show (tO (fW vs W))=_;exact hk) hl (fun v hv=>(gW _ rfl ?_ (fun _=>?_)))]
 ·rfl
 ·show By (f8 (ae (ab 0) (ab 1) (uH true))) (i7 (tR (bL (pC (ab 2) (pC (ab 1) (pC (ab 0) pN))) (e_ K CL)))) [some (vD v),some (.lst (t.map vD)),some (fW vs W)]=_;have hh:=xR (K:=K) (CL:=CL) (t:=t) hv (hw v hv);cases q:t.contains v with
  |true=>simp only[aJ,rP,q]
  |false=>
   simp only[aJ,rP,q,hh,nz];congr 1;rw[not_not];cases y:(W v).all fun u=>t.contains u.1 with
   |true=>
    rw[List.filter_eq_nil_iff.mpr fun u hu=>by rw[all_eq_true]at y;rw[y u hu];exact Bool.false_ne_true];rfl
   |false=>
    cases z:(W v).filter fun u=> !t.contains u.1 with
    |cons a b=>rfl
    |nil=>
     rw[List.filter_eq_nil_iff]at z;have:((W v).all fun u=>t.contains u.1)=true:=all_eq_true.mpr fun u hu=>by simpa using z u hu
     rw[this]at y;cases y
 ·rfl
theorem zT {t:List Vt}:cC 1 (.lst (t.map vD))=true:=by
 have:=jS (l:=t.map fun v=>[(v.1:Int),(v.2:Int)]);rw[map_map]at this;exact this
theorem zF (hv:vs.Nodup)(hl:vs.length≤39)(hw:∀v∈vs,(W v).length≤100000):∃t,Turn vs W t∧b8 vs W t=[]∧hG K CL [fW vs W]= .ok (.lst (t.map vD)):=by
 have ex:∀t:List Vt,gn K CL [fW vs W,.lst (t.map vD)]= .ok (.lst ((b8 vs W t).map vD)):=fun t=>zw (by omega) hw;refine(gW (fD vs W 40 []) ((qm hv 40 [] pD (by rw[length_nil];omega)).1) ((qm hv 40 [] pD (by rw[length_nil];omega)).2) ?_);unfold hG;refine(bu rfl).trans ?_;have e0:aC lR [fW vs W]=[some (fW vs W),none,none]:=rfl;rw[e0];unfold jN;have h0:=ex [];rw[map_nil]at h0;simp only[aJ,h0,zT];refine jL (fun n ρ=>∃t,ρ=[some (fW vs W),some (.lst (t.map vD)),some (.lst ((b8 vs W t).map vD))]∧Turn vs W t∧vs.length≤n+t.length∧fD vs W (n+1) t=fD vs W 40 []) (fun ρ=>ρ=[some (fW vs W),some (.lst ((fD vs W 40 []).map vD)),some (.lst [])]) 39 (by omega) (zH ([]) rfl pD (by omega) rfl) (fun n ρ hZ222=>?_) (fun ρ' e=>?_)
 ·refine IP (hZ222) fun t e T hn hr=>?_;subst e;by_cases h:b8 vs W t=[]
  ·refine .inl ⟨?_,?_⟩
   ·rw[h];simp only[aJ,nz];rfl
   ·rw[h];have e3:fD vs W (n+1) t=t:=by
     unfold fD;rw[if_pos h]
    rw[←hr,e3];rfl
  ·have T2:=qG hv T;have l2:=hX T2.nd T2.sub;rw[length_append]at l2;have lp:=length_pos_iff.mpr h;cases n with
   |zero=>omega
   |succ m=>
    refine .inr ⟨?_,m,[some (fW vs W),some (.lst ((t ++ b8 vs W t).map vD)),some (.lst ((b8 vs W (t ++ b8 vs W t)).map vD))],rfl,?_,t ++ b8 vs W t,rfl,T2,by rw[length_append];omega,?_⟩
    ·cases q:b8 vs W t with
     |nil=>exact absurd q h
     |cons a b=>simp only[aJ,nz];rfl
    ·show (ax (rh 1 0 (sF 1) (dQ fN (ab 2))) (aT 2 (oQ 1 (bL (pC (ab 0) (pC (ab 1) pN)) (gn K CL))))) _=_;have e1:rh 1 0 (sF 1) (dQ fN (ab 2)) [some (fW vs W),some (.lst (t.map vD)),some (.lst ((b8 vs W t).map vD))]= .nx [some (fW vs W),some (.lst ((t ++ b8 vs W t).map vD)),some (.lst ((b8 vs W t).map vD))]:=by
      rw[BS (j:=1) (n:=0) (p:=[]) (t:=.lst (t.map vD)) (g:=sF 1) (rows:=t.map vD) (l:=(b8 vs W t).map vD) (q0 rfl) (by simp only[aJ]) rfl rfl rfl (by rw[length_map,length_map];omega),map_append];rfl
     rw[uU,e1];simp only[aJ,ex (t ++ b8 vs W t),zT]
    ·rw[←hr]
     conv=>rhs;unfold fD
     rw[if_neg h]
 ·subst e;simp only[aJ]
theorem FQ {a:Int}{ns:List Int}:j0 (a::ns)=uJ a ns:=by
 have h:=jT (ns:=a::ns) (by simp);exact(vq (h.2 a (mem_cons_self ..)) (fun e he=>h.2 e (cR he)) (mem_cons.mp h.1)).symm
noncomputable def dE (t:List Vt)(f:Vt→Int):D:=.dct (t.map jR) (t.map fun v=>.int (f v))
theorem oM {ts:List Tr}{t:List Vt}(T:Turn (aG ts) W t)(hl:(aG ts).length≤39)(hw:∀v∈aG ts,(W v).length≤1000):cr K CL [.lst (ts.map br),fW (aG ts) W,.lst (t.map vD)]= .ok (dE t (gX W (ka ts) t)):=by
 unfold cr;refine(bu rfl).trans ?_;have e0:aC dk [.lst (ts.map br),fW (aG ts) W,.lst (t.map vD)]=[some (.lst (ts.map br)),some (fW (aG ts) W),some (.lst (t.map vD)),none,none,none]:=rfl;rw[e0];unfold dc;simp only[aJ];refine fU (fun pre ρ=>∃o4 o5,ρ=[some (.lst (ts.map br)),some (fW (aG ts) W),some (.lst (t.map vD)),some (dE pre (gX W (ka ts) pre)),o4,o5]) ⟨none,none,rfl⟩ (fun pre v post E ρ hZ223=>?_) (fun ρ' hZ224=>?_)
 ·refine cps fun PP kP=>?_;obtain⟨o4,o5,e⟩:=hZ223;subst e;have hvt:v∈t:=by rw[E];simp
  have hv:=T.sub v hvt;obtain⟨tr,ht,hs⟩:=mem_visits.mp hv;refine kP ?_;clear kP PP;have nv:v∉pre:=fun z=>by
   have nd:=T.nd;rw[E]at nd;exact(nodup_append.mp nd).2.2 v z v (mem_cons_self ..) rfl
  have hpl:pre.length≤39:=by
   have:=hX T.nd T.sub;have:=congrArg List.length E;rw[length_append]at this;omega
  have hix:=bb (g:=br) ht;have e2:aL (br tr) (.int 2)= .ok (.int tr.2.2):=qj;have er:ka ts v=tr.2.2:=by unfold ka;rw[ht]
  have iv0:aL (vD v) (.int 0)= .ok (.int (v.1:Int)):=fA rfl;have hg:cB (fW (aG ts) W) (vD v)= .ok (lW W v):=uQ hv;refine⟨_,rfl,?_⟩;simp only[aJ,iv0,hix,e2];have cg:bm (sL (ae (ab 1) (ab 4) cB)) [none,some 3] (bR 0) yes (ae (ae (ab 1) (ae (ab 0) (kI 0) aL) cB) (ae (ab 0) (kI 1) aL) aZ) [some (.lst (ts.map br)),some (fW (aG ts) W),some (.lst (t.map vD)),some (dE pre (gX W (ka ts) pre)),some (vD v),some (.int tr.2.2)]= .ok (.lst ((W v).map fun u=>D.int (gX W (ka ts) pre u.1+u.2))):=by
   refine bf (xs:=W v) (c:=wD) (g:=fun u=>D.int (gX W (ka ts) pre u.1+u.2)) (by simp only[aJ,hg];rfl) (le_trans (hw v hv) (by decide)) (fun u hu=>⟨_,rfl,?_⟩);have hp:u.1∈pre:=T.top pre v post E u hu;have hgu:cB (dE pre (gX W (ka ts) pre)) (vD u.1)= .ok (.int (gX W (ka ts) pre u.1)):=EJ hp;show ae (ae (ab 1) (ae (ab 0) (kI 0) aL) cB) (ae (ab 0) (kI 1) aL) aZ [some (wD u),some (dE pre (gX W (ka ts) pre))]=_;simp only[aJ,zL,HS,hgu,ol]
  have val:(oQ 0 (c1 (ae (gJ (pC (ab 5) pN)) (bm (sL (ae (ab 1) (ab 4) cB)) [none,some 3] (bR 0) yes (ae (ae (ab 1) (ae (ab 0) (kI 0) aL) cB) (ae (ab 0) (kI 1) aL) aZ)) aZ) pS)) [some (.lst (ts.map br)),some (fW (aG ts) W),some (.lst (t.map vD)),some (dE pre (gX W (ka ts) pre)),some (vD v),some (.int tr.2.2)]= .ok (.int (gX W (ka ts) (pre ++ [v]) v)):=by
   have ea:aZ (.lst [.int tr.2.2]) (.lst ((W v).map fun u=>D.int (gX W (ka ts) pre u.1+u.2)))= .ok (.lst ((tr.2.2::(W v).map fun u=>gX W (ka ts) pre u.1+u.2).map D.int)):=by
    have:=hw v hv;rw[om (du (by rw[length_map,length_singleton];omega)),map_cons,map_map];rfl
   simp only[aJ,cg,ea,tV,FQ,lh];rw[oK];unfold Ej;rw[if_pos rfl,er]
  refine(rF _ (wk (ks:=pre.map jR) (l:=pre.map fun v=>.int (gX W (ka ts) pre v)) (k:=jR v) (kd:=[.int (v.1:Int),.int (v.2:Int)]) rfl val (by simp only[aJ];rfl) oJ (by rw[length_map];omega)) (some (vD v)) (some (.int tr.2.2)) ?_);have ep:m8 (pre.map jR) (pre.map fun v=>.int (gX W (ka ts) pre v)) (jR v) (.int (gX W (ka ts) (pre ++ [v]) v))=dE (pre ++ [v]) (gX W (ka ts) (pre ++ [v])):=by
   have:(pre.map fun v=>D.int (gX W (ka ts) pre v))=pre.map fun x=>D.int (gX W (ka ts) (pre ++ [v]) x):=map_congr_left fun x hx=>by
    rw[oK];unfold Ej;rw[if_neg (fun (z:x=v)=>nv (z ▸ hx))]
   rw[this];exact wV (f:=fun x=>D.int (gX W (ka ts) (pre ++ [v]) x)) nv
  rw[ep];rfl
 ·obtain⟨o4,o5,e⟩:=hZ224;subst e;simp only[aJ]
noncomputable def fE (t:List Vt)(f:Vt→Int):D:=.fdc (t.map jR) (t.map fun v=>.int (f v))
theorem AQ {t:List Vt}{f:Vt→Int}{q:Q}(hl:(aq q.1).length≤1000)(h:∀s∈aq q.1,(q.2,s)∈t):hJ K CL [.int (q.2:Int),ao q.1,fE t f]= .ok (am ((aq q.1).map fun s=>f (q.2,s))):=by
 unfold hJ;refine(bu rfl).trans ?_;have e0:aC kX [.int (q.2:Int),ao q.1,fE t f]=[some (.int (q.2:Int)),some (ao q.1),some (fE t f)]:=rfl;rw[e0];unfold kW;rw[lV,bf (xs:=aq q.1) (c:=fun (s:Nat)=>D.int (s:Int)) (g:=fun s=>D.int (f (q.2,s))) (by simp only[aJ];rfl) (by omega) (fun s hs=>⟨_,rfl,?_⟩)]
 ·unfold am;rw[map_map];rfl
 ·have hg:cB (fE t f) (vD (q.2,s))= .ok (.int (f (q.2,s))):=uQ (h s hs);show ae (ab 1) (f7 (pC (ab 2) (pC (ab 0) pN))) cB [some (.int (s:Int)),some (fE t f),some (.int (q.2:Int))]=_;simp only[aJ];exact hg
noncomputable def pA (ts:List Tr)(f:Vt→Int):Pl:=ts.zipIdx.map fun q=>(aq q.1).map fun s=>f (q.2,s)
theorem vQ {ts:List Tr}{t:List Vt}{f:Vt→Int}(h5:ts.length≤5)(hl:∀q∈ts.zipIdx,(aq q.1).length≤1000)(h:∀v∈aG ts,v∈t):fK K CL [.lst (ts.map ao),fE t f]= .ok (.lst ((pA ts f).map am)):=by
 unfold fK;refine(bu rfl).trans ?_;have e0:aC iz [.lst (ts.map ao),fE t f]=[some (.lst (ts.map ao)),some (fE t f)]:=rfl;rw[e0];unfold il;rw[lV,bf (xs:=ts.zipIdx) (c:=fun u:Q=>D.tup [.int (u.2:Int),ao u.1]) (g:=fun q:Q=>am ((aq q.1).map fun s=>f (q.2,s))) (by simp only[aJ,eA]) (by rw[length_zipIdx];omega) (fun q hq=>⟨_,rfl,?_⟩)]
 ·unfold pA;rw[map_map];rfl
 ·show bL (pC (ab 0) (pC (ab 1) (pC (ab 2) pN))) (hJ K CL) [some (.int (q.2:Int)),some (ao q.1),some (fE t f)]=_;simp only[aJ,AQ (K:=K) (CL:=CL) (t:=t) (f:=f) (hl q hq) (fun s hs=>h _ (mem_visits.mpr ⟨q.1,mem_zip.mp hq,hs⟩))]
theorem pP {rs:List Int}{g:Int}{ts:List Tr}{O:List (List Nat)}{τ:Vt→Int}(C:Ctx rs g ts)(H:Ords rs.length ts O)(S:Sol (aG ts) (sB rs g ts O) (ka ts) τ):∃f:Vt→Int,cG K CL [av CL rs g,.lst (ts.map br),fX O]= .ok (.tup [.str (Str.ofString "table"),.lst ((pA ts f).map am)])∧Sol (aG ts) (sB rs g ts O) (ka ts) f∧∀v∈aG ts,f v≤τ v:=by
 have hn5:=C.ln.few;have ht5:=C.few;have h5:∀q∈ts.zipIdx,(aq q.1).length≤5:=fun q hq=>by
  have:=eL (C.good hq);omega
 have hvl:(aG ts).length≤39:=by
  have:=pE (qs:=ts.zipIdx) h5;rw[length_zipIdx]at this;have e:i_ ts.zipIdx=aG ts:=rfl;rw[e]at this;omega
 have hwl:∀v∈aG ts,(sB rs g ts O v).length≤1000:=fun v A=>by
  obtain⟨t,ht,hs⟩:=mem_visits.mp A;have hlt:=cP (C.tr t (mem_of_getElem? ht)) _ hs;rw[←v8 A (by rw[H.len];exact hlt)];have h1:=nu (rs:=rs) (qs:=ts.zipIdx) h5;have h2:=qX (rs:=rs) (g:=g) (os:=O.zipIdx) fun o ho=>by
   have hz:=mem_zip.mp ho;have hs:o.2<rs.length:=by rw[←H.len];exact(cU hz).1
   have:=wB H hs;have e1:O.getD o.2 []=o.1:=by rw[getD_eq_getElem?_getD,hz];rfl
   rw[e1]at this;omega
  have h3:=sJ (E:=wj rs ts.zipIdx ++ Bq rs g O.zipIdx) (v:=v);rw[length_append]at h3;rw[length_zipIdx]at h1 h2;rw[H.len]at h2;omega
 refine cj (zF (K:=K) (CL:=CL) (W:=sB rs g ts O) eW hvl (fun v A=>le_trans (hwl v A) (by decide))) fun t T hf ht=>?_;have G:=tI S (fun v A=>by
  obtain⟨tr,h1,_⟩:=mem_visits.mp A;unfold ka;rw[h1];exact(C.tr tr (mem_of_getElem? h1)).r.1) (fun v A u hu=>GP C H v A u hu) hf
 refine(gW (gX (sB rs g ts O) (ka ts) t) ?_ (uq T G) (fun v A=>FI S T v (G v A)));have hlen:¬((t.length:Int)<((aG ts).length:Int)):=by
  have:=hX eW G;omega
 have hle:=oM (K:=K) (CL:=CL) T hvl hwl;have hto:=vQ (K:=K) (CL:=CL) (t:=t) (f:=gX (sB rs g ts O) (ka ts) t) ht5 (fun q hq=>by have:=h5 q hq;omega) G;have hwo:=vV (K:=K) (CL:=CL) C H;have fz1:Cr (dW (aG ts) (sB rs g ts O))= .ok (fW (aG ts) (sB rs g ts O)):=rfl;have fz2:Cr (dE t (gX (sB rs g ts O) (ka ts) t))= .ok (fE t (gX (sB rs g ts O) (ka ts) t)):=rfl;have hlk:zV [fW (aG ts) (sB rs g ts O)]= .ok (.int ((aG ts).length:Int)):=by
  show Res.ok (D.int (((aG ts).map jR).length:Int))=_;rw[length_map]
 have lf0:cC 0 (.str (Str.ofString "table"))=true:=g_ rfl;have lf1:cC 1 (.str (Str.ofString "table"))=true:=g_ rfl;unfold cG;refine(bu rfl).trans ?_;have e0:aC gB [av CL rs g,.lst (ts.map br),fX O]=[some (av CL rs g),some (.lst (ts.map br)),some (fX O),none,none,none]:=rfl;rw[e0];unfold en;have hwy:dC K CL [av CL rs g,.lst (ts.map br)]= .ok (.lst (ts.map ao)):=nR C.tr (by omega) C.one C.few;simp only[aJ,Jk,hwy,hwo,fz1,ht,hlk,dw,hle,fz2,hto,lf0,lf1,decide_eq_false hlen]
end
section
variable{K:W.Frag}{CL:Addr}
theorem iM:∀(ns:List Int),L2.flats (ns.map D.int)=true:=by
 intro l_
 induction l_ with
 |nil=>
  exact by unfold flats;rfl
 |cons a r ihh=>
  exact by rw[map_cons];unfold flats;rw[ihh];unfold L2.flat;rfl
theorem ya {CL:Addr}{rs:List Int}{g:Int}:cC 0 (av CL rs g)=true:=by
 refine g_ ?_;unfold av L2.flat flats flats flats L2.flat;rw[iM];rfl
theorem Gr {n:Nat}{r:List Int}:bc (n+1) (am r)=true:=mv fun _ _=>fT
theorem CG {l:List (List Int)}:sG (.lst (l.map am)) (.lst (l.map am))= .ok (.bl false):=rO (mv (n:=19) fun _ _=>Gr (n:=18))
theorem Iw {t:Tr}:bc 19 (br t)=true:=by
 unfold br bc plL plL plL plL;rw[fT,fT,fT];rfl
theorem FR {ts:List Tr}:sG (.lst (ts.map br)) (.lst (ts.map br))= .ok (.bl false):=rO (mv (n:=19) fun _ _=>Iw)
theorem zR {ns:List Int}(hns:ns.length≤63):zX K CL [.scr ns]= .ok (.bl true):=by
 refine mV (x_ (K:=K) (CL:=CL) (ns:=ns) (base:=0) (by omega) (by omega)) fun I g GL el=>?_;have h5:=GL.few;have h1:=GL.one;refine cj (uy (K:=K) (CL:=CL) (ns:=ns) (base:=20) (most:=5) (n:=I.length) (by omega) (by omega) h1 h5 (by omega) (by omega)) fun J tl tg et=>?_;have db:=iK (ns:=ns) (k:=20) (many:=5) (by omega);have C:Ctx I g J:=⟨GL,tg,by omega,by omega⟩;have efl:=m6 (K:=K) (CL:=CL) C;have efc:=rj (K:=K) (CL:=CL) C;have TR:=DL C;have Kp:=xY C;generalize hR:run I g J 26 (p0 J)=R at efl efc TR Kp;have r1:=TR.one;have r5:=TR.few;have t5:=C.few;have erw:=Dw (K:=K) (CL:=CL) (p:=R) (by omega) (fun r hr=>by have:=(TR.rows r hr).2;omega);have erw:cW K CL [.lst (R.map am),.lst (R.map am)]= .ok (.bl true):=erw;have ekp:=Kp.isT (K:=K) (CL:=CL) C;have eoo:=t7 (K:=K) (CL:=CL) C Kp;have H:=wC (n:=I.length) Kp.len (Kp.bound C) C.few Kp.row;refine cj (pP (K:=K) (CL:=CL) C H (GH C Kp)) fun f elt Sf hle=>?_;have ein:=Cu (K:=K) (CL:=CL) GL;have eli:dS [.lst (I.map D.int)]= .ok (.lst (I.map D.int)):=rfl;have elt2:dS [.lst (J.map br)]= .ok (.lst (J.map br)):=rfl;have i0:aL (.tup [.lst (I.map D.int),.int g]) (.int 0)= .ok (.lst (I.map D.int)):=fA rfl;have i1:aL (.tup [.lst (I.map D.int),.int g]) (.int 1)= .ok (.int g):=fA rfl;have hr0:I[0]?=some I[0]:=cz (by omega);have ir0:aL (.lst (I.map D.int)) (.int 0)= .ok (.int I[0]):=bb (i:=0) hr0;have lfl:cC 0 (av CL I g)=true:=ya;unfold zX;refine(bu rfl).trans ?_;have e0:aC vZ [D.scr ns]=[some (.scr ns),none,none,none,none,none,none,none,none,none,none,none,none]:=rfl;rw[e0];unfold vX;refine jI [some (.scr ns),some (.tup [.lst (I.map D.int),.int g]),none,none,none,none,none,none,none,none,none,none,none] (by simp only[aJ,el]) ?_;refine jI [some (.scr ns),some (.tup [.lst (I.map D.int),.int g]),some (.lst (J.map br)),none,none,none,none,none,none,none,none,none,none] (by simp only[aJ,i0,et]) ?_;refine jI [some (.scr ns),some (.tup [.lst (I.map D.int),.int g]),some (.lst (J.map br)),some (.lst (I.map D.int)),none,none,none,none,none,none,none,none,none] (by simp only[aJ,JR,i0,eli]) ?_;refine jI [some (.scr ns),some (.tup [.lst (I.map D.int),.int g]),some (.lst (J.map br)),some (.lst (I.map D.int)),some (av CL I g),none,none,none,none,none,none,none,none] (by simp only[aJ,i1,ein,lfl]) ?_;refine jI [some (.scr ns),some (.tup [.lst (I.map D.int),.int g]),some (.lst (J.map br)),some (.lst ((I.map D.int).set 0 (.int (I[0] % 20+1)))),some (av CL I g),none,none,none,none,none,none,none,none] ?_ ?_
 ·rw[rg (m:=0) (l:=I.map D.int) (d:=.int (I[0] % 20+1)) rfl (by
   have em:kJ (.int I[0]) (.int 20)= .ok (.int (I[0] % 20)):=rfl;simp only[aJ,ir0,em,ol,lh]) rfl (by rw[length_map];omega)]
  rfl
 generalize (I.map D.int).set 0 (.int (I[0] % 20+1))=L1;refine jI [some (.scr ns),some (.tup [.lst (I.map D.int),.int g]),some (.lst (J.map br)),some (.lst L1.reverse),some (av CL I g),none,none,none,none,none,none,none,none] ?_ ?_
 ·rw[Cd (j:=3) (n:=0) (p:=[]) (t:=.lst L1) (g:=sF 3) (rows:=L1) (q0 rfl) rfl rfl rfl];rfl
 generalize L1.reverse=L2;refine jI [some (.scr ns),some (.tup [.lst (I.map D.int),.int g]),some (.lst (J.map br)),some (.lst L2),some (av CL I g),some (.lst (R.map am)),none,none,none,none,none,none,none] (by simp only[aJ,i0,i1,efl]) ?_;refine jI [some (.scr ns),some (.tup [.lst (I.map D.int),.int g]),some (.lst (J.map br)),some (.lst L2),some (av CL I g),some (.lst (R.map am)),some (.lst (J.map br)),none,none,none,none,none,none] (by simp only[aJ,elt2]) ?_;have r2:sd [.int 2]= .ok ((List.range 2).map fun (i:Nat)=>D.int (i:Int)):=eV (n:=2) (by omega);simp only[aJ,r2];refine fU (c:=fun (i:Nat)=>D.int (i:Int)) (xs:=List.range 2) (fun _ ρ=>∃o7 o8 o9,ρ=[some (.scr ns),some (.tup [.lst (I.map D.int),.int g]),some (.lst (J.map br)),some (.lst L2),some (av CL I g),some (.lst (R.map am)),some (.lst (J.map br)),o7,o8,o9,none,none,none]) (Fv none none none rfl) (fun pre i post E ρ hZ225=>?_) (fun ρ' hZ226=>?_)
 ·refine yK (hZ225) fun o7 o8 o9 e=>?_;subst e;refine⟨_,rfl,?_⟩;simp only[aJ,efc,erw,FR];have efa:=xB (j:=8) (jr:=9) (n:=0) (c:=9) (g:=sF 8) (p:=[]) (t:=.lst (R.map am)) (rows:=R.map am) (ρ:=[some (.scr ns),some (.tup [.lst (I.map D.int),.int g]),some (.lst (J.map br)),some (.lst L2),some (av CL I g),some (.lst (R.map am)),some (.lst (J.map br)),some (.int (i:Int)),some (.lst (R.map am)),o9,none,none,none]) (q0 rfl) rfl rfl rfl (by
   rw[all_map,all_eq_true];intro r hr;show aS (r.map D.int).length=true;exact du (by rw[length_map];have:=(TR.rows r hr).2;omega))
  have ex:((R.map am).map (jn 9))=(R.map fun r=>r ++ [9]).map am:=by
   rw[map_map,map_map];refine map_congr_left fun r _=>?_;show D.lst (r.map D.int ++ [.int 9])=am (r ++ [9]);unfold am;rw[map_append];rfl
  have efa2:jp 8 9 0 9 (sF 8) [some (.scr ns),some (.tup [.lst (I.map D.int),.int g]),some (.lst (J.map br)),some (.lst L2),some (av CL I g),some (.lst (R.map am)),some (.lst (J.map br)),some (.int (i:Int)),some (.lst (R.map am)),o9,none,none,none]= .nx [some (.scr ns),some (.tup [.lst (I.map D.int),.int g]),some (.lst (J.map br)),some (.lst L2),some (av CL I g),some (.lst (R.map am)),some (.lst (J.map br)),some (.int (i:Int)),some (.lst ((R.map fun r=>r ++ [9]).map am)),none,none,none,none]:=by
   rw[efa,ex];rfl
  have ec:bm (sL (ab 5)) [none] (bR 0) yes (ae (ab 0) (gJ (pC (kI 9) pN)) aZ) [some (.scr ns),some (.tup [.lst (I.map D.int),.int g]),some (.lst (J.map br)),some (.lst L2),some (av CL I g),some (.lst (R.map am)),some (.lst (J.map br)),some (.int (i:Int)),some (.lst ((R.map fun r=>r ++ [9]).map am)),none,none,none,none]= .ok (.lst ((R.map fun r=>r ++ [9]).map am)):=by
   rw[bf (xs:=R) (c:=am) (g:=fun r=>am (r ++ [9])) (by simp only[aJ]) (by omega) (fun r hr=>⟨_,rfl,?_⟩)]
   ·rw[map_map];rfl
   ·show ae (ab 0) (gJ (pC (kI 9) pN)) aZ [some (am r)]=_;have ea:aZ (am r) (.lst [.int 9])= .ok (am (r ++ [9])):=by
     unfold am;rw[om (du (by rw[length_map,length_singleton];have:=(TR.rows r hr).2;omega)),map_append];rfl
    simp only[aJ,ea]
  simp only[aJ,efa2,ec,CG];exact(HR _ rfl _ _ _ rfl)
 ·refine yK (hZ226) fun o7 o8 o9 e=>?_;subst e;have hnt:wy (.bl true) (.bl true)= .ok (.bl false):=rfl;simp only[aJ,ekp,hnt,eoo,elt];have it0:aL (.tup [.str (Str.ofString "table"),.lst ((pA J f).map am)]) (.int 0)= .ok (.str (Str.ofString "table")):=fA rfl;have it1:aL (.tup [.str (Str.ofString "table"),.lst ((pA J f).map am)]) (.int 1)= .ok (.lst ((pA J f).map am)):=fA rfl;simp only[aJ,it0,dw,eV (n:=J.length) (by omega)];refine fU (c:=fun (i:Nat)=>D.int (i:Int)) (xs:=List.range J.length) (fun _ ρ=>∃o11 L,ρ=[some (.scr ns),some (.tup [.lst (I.map D.int),.int g]),some (.lst (J.map br)),some (.lst L2),some (av CL I g),some (.lst (R.map am)),some (.lst (J.map br)),o7,o8,o9,some (.tup [.str (Str.ofString "table"),.lst ((pA J f).map am)]),o11,L]) ⟨none,none,rfl⟩ (fun pre k post E ρ hZ227=>?_) (fun ρ' hZ228=>?_)
  ·obtain⟨o11,L,e⟩:=hZ227;subst e;refine⟨_,rfl,?_⟩;have hk:k<J.length:=mem_range.mp (by rw[E];simp);have hz:(J[k],k)∈J.zipIdx:=mem_zip.mpr (cz hk);have hkR:k<R.length:=by rw[Kp.len];exact hk
   have xk:aL (.lst (R.map am)) (.int (k:Int))= .ok (am (aj R k)):=bb (ce hkR);have hrow:=Kp.row _ hz;dsimp only at hrow;have hw5:=eL (C.good hz);dsimp only at hw5;have tk:(pA J f)[k]?=some ((aq J[k]).map fun s=>f (k,s)):=by
    unfold pA;rw[getElem?_map,List.getElem?_zipIdx,cz hk];show some _=some _;rw[zero_add]
   have xt:aL (.lst ((pA J f).map am)) (.int (k:Int))= .ok (am ((aq J[k]).map fun s=>f (k,s))):=bb tk;have el2:bq [am (aj R k)]= .ok (.int ((aj R k).length:Int)):=dw;simp only[aJ,xk,el2,eV (n:=(aj R k).length) (by omega)];refine jX (c:=fun (i:Nat)=>D.int (i:Int)) (xs:=List.range (aj R k).length) (fun _ ρ=>∃L,ρ=[some (.scr ns),some (.tup [.lst (I.map D.int),.int g]),some (.lst (J.map br)),some (.lst L2),some (av CL I g),some (.lst (R.map am)),some (.lst (J.map br)),o7,o8,o9,some (.tup [.str (Str.ofString "table"),.lst ((pA J f).map am)]),some (.int (k:Int)),L]) ⟨L,rfl⟩ (fun pre i post E ρ hZ229=>?_) (fun ρ' hZ230=>(by obtain⟨L,e⟩:=hZ230;exact⟨_,_,e⟩));obtain⟨L,e⟩:=hZ229;subst e;refine⟨_,rfl,?_⟩;have hi:i<(aj R k).length:=mem_range.mp (by rw[E];simp);have hiw:i<(aq J[k]).length:=by omega
   have xi:aL (am (aj R k)) (.int (i:Int))= .ok (.int (aj R k)[i]):=bb (cz hi);have xf:aL (am ((aq J[k]).map fun s=>f (k,s))) (.int (i:Int))= .ok (.int (f (k,(aq J[k])[i]))):=bb (by rw[getElem?_map,cz hiw];rfl);have hmin:=nE (T:=R) (cz hk) (cz hiw) (cz hi);have hfin:=hle (k,(aq J[k])[i]) (mem_visits.mpr ⟨J[k],cz hk,getElem_mem hiw⟩);rw[hmin]at hfin;simp only[aJ,it1,xt,xf,xk,xi,decide_eq_false (show ¬((aj R k)[i]<f (k,(aq J[k])[i])) by omega)];exact⟨_,rfl,_,rfl⟩
  ·obtain⟨o11,L,e⟩:=hZ228;subst e;simp only[aJ]
end
theorem ED {l:W.OpenLaw}{w:World}{K:W.Frag}{h:Heap}{mg:Str→Option Value}{fa CL:Addr}(X:K.In h)(G:h.Ns mainGlobals mg)(hfa:mg "law" =some (.ref fa)){t0 t1 t2 t3 t4:Tok}
  (aCL:W.nsIn K mainGlobals "Line" =some (some (.ref CL)))
  (g1:FT K "check_line" iV)
  (g2:FT K "_law_drawn" iT)
  (g3:FT K "_law_whole" iU)
  (g4:FT K "_law_row" kO)
  (g5:FT K "_law_rows" jG)
  (g6:FT K "_law_line_by" dL)
  (g7:FT K "_law_trains_by" d8)
  (g8:FT K "_law_way" fY)
  (g9:FT K "_law_first_come" bi)
  (g10:FT K "check_train" gQ)
  (g11:FT K "way" AT)
  (g12:FT K "ways" sk)
  (g13:FT K "entries_on" iW)
  (g14:FT K "is_whole" fZ)
  (g15:FT K "all_in_time" gN)
  (g16:FT K "all_apart" jH)
  (g17:FT K "keeps" sj)
  (g18:FT K "check_table" gP)
  (g19:FT K "order_on" iX)
  (g20:FT K "orders_of" gs)
  (g21:FT K "minute_there" f6)
  (g22:FT K "soonest_enter" cO)
  (g23:FT K "next_entries" cw)
  (g24:FT K "first_come" eY)
  (g25:FT K "check_orders" dM)
  (g26:FT K "waits_of" kQ)
  (g27:FT K "held_by" jY)
  (g28:FT K "freed" nN)
  (g29:FT K "in_turn" mx)
  (g30:FT K "least_enters" dN)
  (g31:FT K "row_of" lN)
  (g32:FT K "table_of" iY)
  (g33:FT K "least_table" gR)
  (g34:FT K "law" mQ)
  (g35:FM K CL "__init__" "Line.__init__" vI)
  (g36:FM K CL "runs" "Line.runs" vJ)
  (g37:FM K CL "clear" "Line.clear" si)
  (pg:W.plainGet K CL Str.empty=true)
  (hd:W.hasDictIn K CL=true)
  (po:W.plainOver K CL=true)
  (sa:W.findIn K (.ref CL) "__setattr__" =some (some (.builtin "object.__setattr__")))
  (mk:W.makesIn K CL=true)
  (kc:W.keepIn K (.ref CL)=true)
  (nM:W.findIn K (.ref CL) "minutes" =some none)
  (nG:W.findIn K (.ref CL) "gap" =some none)
  (z0:W.nsIn K mainGlobals "len" =some none)
  (z1:W.nsIn K mainGlobals "list" =some none)
  (z2:W.nsIn K mainGlobals "range" =some none)
  (z3:W.nsIn K mainGlobals "isinstance" =some none)
  (z4:W.nsIn K mainGlobals "min" =some none)
  (z5:W.nsIn K mainGlobals "max" =some none)
  (z6:W.nsIn K mainGlobals "tuple" =some none)
  (z7:W.nsIn K mainGlobals "sorted" =some none)
  (z8:W.nsIn K mainGlobals "enumerate" =some none)
  (z9:W.nsIn K mainGlobals "zip" =some none)
  (z10:W.nsIn K mainGlobals "str" =some none)
  (z11:W.nsIn K mainGlobals "int" =some none)
  (z12:W.nsIn K mainGlobals "bool" =some none)
  (z13:W.nsIn K mainGlobals "abs" =some none)
  (z14:W.nsIn K mainGlobals "ValueError" =some none)
  (w0:W.nsIn K mainGlobals "MOST_STRETCHES" =some (some (.int 5 t0)))
  (w1:W.nsIn K mainGlobals "MOST_RUN" =some (some (.int 20 t1)))
  (w2:W.nsIn K mainGlobals "MOST_CLEAR" =some (some (.int 5 t2)))
  (w3:W.nsIn K mainGlobals "MOST_TRAINS" =some (some (.int 5 t3)))
  (w4:W.nsIn K mainGlobals "MOST_READY" =some (some (.int 60 t4))) :
  ∃fd:FuncData,(∀(s:Shared) (v:Value),BindsTo s fd ⟨[v],[]⟩ [("script",v)])∧∀base:Heap,K.In base→base.Ns mainGlobals mg→FnOk l.prog w K mg base (CXF l.prog w) 8 fa fd ["script"] (w6 K):=by
 obtain⟨f,e,m,t,c,k,d⟩:=g34;cases hfa.symm.trans (W.mg_of X G e);have T:Txt K mg CL:={mgL:=W.mg_of X G aCL,cl:=⟨pg,hd,po,sa⟩,nM:=nM,nG:=nG,b_len:=W.mg_none_of X G z0,b_list:=W.mg_none_of X G z1,b_range:=W.mg_none_of X G z2,b_isinstance:=W.mg_none_of X G z3,b_min:=W.mg_none_of X G z4,b_max:=W.mg_none_of X G z5,b_tuple:=W.mg_none_of X G z6,b_sorted:=W.mg_none_of X G z7,b_enumerate:=W.mg_none_of X G z8,b_zip:=W.mg_none_of X G z9,b_str:=W.mg_none_of X G z10,b_int:=W.mg_none_of X G z11,b_bool:=W.mg_none_of X G z12,b_abs:=W.mg_none_of X G z13,b_ValueError:=W.mg_none_of X G z14,mS:=⟨_,W.mg_of X G w0⟩,mR:=⟨_,W.mg_of X G w1⟩,mC:=⟨_,W.mg_of X G w2⟩,mT:=⟨_,W.mg_of X G w3⟩,mY:=⟨_,W.mg_of X G w4⟩};refine cps fun PP kP=>?_;obtain⟨f35,a35,F35⟩:=g35;obtain⟨d35,e35⟩:=F35.mk1;obtain⟨f36,a36,F36⟩:=g36;obtain⟨d36,e36⟩:=F36.mk1;obtain⟨f37,a37,F37⟩:=g37;obtain⟨d37,e37⟩:=F37.mk1;refine kP ?_;clear kP PP;refine⟨W.fnOf "law" "law" (iJ mQ) (cL mQ) (ag mQ) .none .none .none (.str m t) none (.ref c) .none,fun s v=>.of_eq rfl,fun base _ _=>?_⟩;have C_runs:CalM l.prog w K mg base CL "runs" 1 (dz CL):=⟨T.cl,f36,_,⟨a36,F36.fn,F36.kp⟩,CP e36 T,e36.binds fun _ _ _ _ _ _=>zU fun _=>rfl⟩;have C_clear:CalM l.prog w K mg base CL "clear" 1 (fG CL):=⟨T.cl,f37,_,⟨a37,F37.fn,F37.kp⟩,Af e37 T,e37.binds fun _ _ _ _ _ _=>zU fun _=>rfl⟩;have C_check_line:=iD (P:=l.prog) (w:=w) (base:=base) T (j3 X G g1 fun _ _ _ _ _ _=>oO fun _ _=>rfl) ;have C_Line:CalI l.prog w K mg base "Line" CL 2 ["self","runs","clear"] (j7 K CL):=⟨zW,T.mgL,f35,_,⟨mk,a35,F35.fn,kc⟩,CN e35 T C_check_line,e35.binds fun _ _ _ _ _ _=>kG fun _ _ _=>rfl⟩;have C__law_drawn:=aP (P:=l.prog) (w:=w) (base:=base) T (j3 X G g2 fun _ _ _ _ _ _=>kG fun _ _ _=>rfl) ;have C__law_whole:=iC (P:=l.prog) (w:=w) (base:=base) T (j3 X G g3 fun _ _ _ _ _ _=>zU fun _=>rfl) ;have C__law_row:=kj (P:=l.prog) (w:=w) (base:=base) T (j3 X G g4 fun _ _ _ _ _ _=>oO fun _ _=>rfl) C__law_whole;have C__law_rows:=jf (P:=l.prog) (w:=w) (base:=base) T (j3 X G g5 fun _ _ _ _ _ _=>oO fun _ _=>rfl) C__law_row;have C__law_line_by:=fq (P:=l.prog) (w:=w) (base:=base) T (j3 X G g6 fun _ _ _ _ _ _=>oO fun _ _=>rfl) C__law_drawn;have C__law_trains_by:=dX (P:=l.prog) (w:=w) (base:=base) T (j3 X G g7 fun _ _ _ _ _ _=>FN fun _ _ _ _=>rfl) C__law_drawn;have C__law_way:=fu (P:=l.prog) (w:=w) (base:=base) T (j3 X G g8 fun _ _ _ _ _ _=>zU fun _=>rfl) ;have C__law_first_come:=dl (P:=l.prog) (w:=w) (base:=base) T (j3 X G g9 fun _ _ _ _ _ _=>kG fun _ _ _=>rfl) C__law_way;have C_check_train:=gG (P:=l.prog) (w:=w) (base:=base) T (j3 X G g10 fun _ _ _ _ _ _=>oO fun _ _=>rfl)  C_runs;have C_way:=y9 (P:=l.prog) (w:=w) (base:=base) T (j3 X G g11 fun _ _ _ _ _ _=>oO fun _ _=>rfl) C_check_train;have C_ways:=iF (P:=l.prog) (w:=w) (base:=base) T (j3 X G g12 fun _ _ _ _ _ _=>oO fun _ _=>rfl) C_way;have C_entries_on:=bX (P:=l.prog) (w:=w) (base:=base) T (j3 X G g13 fun _ _ _ _ _ _=>kG fun _ _ _=>rfl) ;have C_is_whole:=kl (P:=l.prog) (w:=w) (base:=base) T (j3 X G g14 fun _ _ _ _ _ _=>oO fun _ _=>rfl) ;have C_all_in_time:=gE (P:=l.prog) (w:=w) (base:=base) T (j3 X G g15 fun _ _ _ _ _ _=>FN fun _ _ _ _=>rfl)  C_runs;have C_all_apart:=jg (P:=l.prog) (w:=w) (base:=base) T (j3 X G g16 fun _ _ _ _ _ _=>kG fun _ _ _=>rfl) C_entries_on C_runs C_clear;have C_keeps:=k7 (P:=l.prog) (w:=w) (base:=base) T (j3 X G g17 fun _ _ _ _ _ _=>kG fun _ _ _=>rfl) C_all_apart C_all_in_time C_is_whole C_ways;have C_check_table:=gF (P:=l.prog) (w:=w) (base:=base) T (j3 X G g18 fun _ _ _ _ _ _=>kG fun _ _ _=>rfl) C_keeps;have C_order_on:=km (P:=l.prog) (w:=w) (base:=base) T (j3 X G g19 fun _ _ _ _ _ _=>kG fun _ _ _=>rfl) C_entries_on;have C_orders_of:=jh (P:=l.prog) (w:=w) (base:=base) T (j3 X G g20 fun _ _ _ _ _ _=>kG fun _ _ _=>rfl) C_check_table C_order_on C_ways C_runs;have C_minute_there:=fx (P:=l.prog) (w:=w) (base:=base) T (j3 X G g21 fun _ _ _ _ _ _=>Ie fun _ _ _ _ _=>rfl)  C_runs;have C_soonest_enter:=eM (P:=l.prog) (w:=w) (base:=base) T (j3 X G g22 fun _ _ _ _ _ _=>Ie fun _ _ _ _ _=>rfl) C_entries_on C_minute_there C_runs C_clear;have C_next_entries:=dm (P:=l.prog) (w:=w) (base:=base) T (j3 X G g23 fun _ _ _ _ _ _=>FN fun _ _ _ _=>rfl) C_soonest_enter;have C_first_come:=iE (P:=l.prog) (w:=w) (base:=base) T (j3 X G g24 fun _ _ _ _ _ _=>oO fun _ _=>rfl) C_next_entries C_ways;have C_check_orders:=fv (P:=l.prog) (w:=w) (base:=base) T (j3 X G g25 fun _ _ _ _ _ _=>kG fun _ _ _=>rfl) ;have C_waits_of:=kr (P:=l.prog) (w:=w) (base:=base) T (j3 X G g26 fun _ _ _ _ _ _=>kG fun _ _ _=>rfl) C_check_orders C_runs C_clear;have C_held_by:=lS (P:=l.prog) (w:=w) (base:=base) T (j3 X G g27 fun _ _ _ _ _ _=>kG fun _ _ _=>rfl) ;have C_freed:=no (P:=l.prog) (w:=w) (base:=base) T (j3 X G g28 fun _ _ _ _ _ _=>oO fun _ _=>rfl) C_held_by;have C_in_turn:=lT (P:=l.prog) (w:=w) (base:=base) T (j3 X G g29 fun _ _ _ _ _ _=>zU fun _=>rfl) C_freed;have C_least_enters:=fw (P:=l.prog) (w:=w) (base:=base) T (j3 X G g30 fun _ _ _ _ _ _=>kG fun _ _ _=>rfl) ;have C_row_of:=nZ (P:=l.prog) (w:=w) (base:=base) T (j3 X G g31 fun _ _ _ _ _ _=>kG fun _ _ _=>rfl) ;have C_table_of:=ko (P:=l.prog) (w:=w) (base:=base) T (j3 X G g32 fun _ _ _ _ _ _=>oO fun _ _=>rfl) C_row_of;have C_least_table:=gH (P:=l.prog) (w:=w) (base:=base) T (j3 X G g33 fun _ _ _ _ _ _=>kG fun _ _ _=>rfl) C_in_turn C_least_enters C_table_of C_waits_of C_ways;exact CO (Hh (P:=l.prog) (w:=w) (base:=base) T (zx (st:=mQ) k d (rK k)) C__law_first_come C__law_line_by C__law_rows C__law_trains_by C_first_come C_keeps C_least_table C_orders_of C_Line) fun ns hns=>K09.zR hns
noncomputable def kc (x y:Str)(t:Nat)(l n f:Int)(r:Nat)(w m:Int):Obj:=⟨.type "code",none,.fields #[.str x t,.str y (t+1),.str "/claim/cut.py" (t+2),.int l 0,.int n 0,.int 0 0,.int 0 0,.int f 0,.ref r,.bool true,.int w 0,.ref (r+1),.none,.ref (r+2),.ref (r+3),.ref (r+4),.int m 0,.int l 0,.str "/claim/cut.py" (m.toNat+1)],#[]⟩
noncomputable def kn (x y:Str)(t:Nat)(l n f:Int)(r:Nat)(w m:Int):Obj:=⟨.type "code",none,.fields #[.str x t,.str y (t+1),.str "/claim/cut.py" (t+2),.int l 0,.int n 0,.int 0 0,.int 0 0,.int f 0,.ref r,.bool true,.int w 0,.ref (r+1),.none,.none,.none,.ref (r+2),.int m 0,.int l 0,.str "/claim/cut.py" (m.toNat+1)],#[]⟩
noncomputable def kd (P:Params)(l:List (Str×Nat×Value))(n:Nat):Obj:=⟨.type "dict",none,.dict (l.map fun e=>⟨PyData.keyHash P e.1,.str e.1 e.2.1,e.2.2⟩).toArray n,#[]⟩
noncomputable def HV (t:List (Str×Nat×Value)):List (Str×Nat×Value):=("__name__",165,.str "law_haltline_k09_whole_first_come" 565)::("__doc__",166,.none)::("__package__",167,.none)::("__loader__",168,.builtin "__main__.__loader__#opaque")::("__spec__",169,.none)::("__annotations__",170,.ref 6)::("__builtins__",171,.ref 4)::t
noncomputable def HW (t:List (Str×Nat×Value)):List (Str×Nat×Value):=("__file__",173,.str "/claim/cut.py" 172)::("__cached__",174,.none)::("HaltError",206,.ref 24)::("BadLine",222,.ref 37)::("BadTrains",238,.ref 49)::("BadOrders",254,.ref 61)::("BadTable",270,.ref 73)::t
noncomputable def HX (t:List (Str×Nat×Value)):List (Str×Nat×Value):=("MOST_STRETCHES",274,.int 5 273)::("MOST_RUN",276,.int 20 275)::("MOST_CLEAR",278,.int 5 277)::("MOST_TRAINS",280,.int 5 279)::("MOST_READY",282,.int 60 281)::("Line",327,.ref 106)::("check_line",336,.ref 117)::t
noncomputable def HY (t:List (Str×Nat×Value)):List (Str×Nat×Value):=("way",346,.ref 124)::("check_train",357,.ref 131)::("ways",363,.ref 136)::("keeps",375,.ref 143)::("orders_of",381,.ref 148)::("check_table",390,.ref 155)::("is_whole",396,.ref 160)::t
noncomputable def HZ (t:List (Str×Nat×Value)):List (Str×Nat×Value):=("all_in_time",412,.ref 167)::("all_apart",427,.ref 174)::("order_on",433,.ref 179)::("entries_on",447,.ref 186)::("first_come",455,.ref 191)::("next_entries",461,.ref 196)::("soonest_enter",467,.ref 201)::t
noncomputable def H_ (t:List (Str×Nat×Value)):List (Str×Nat×Value):=("minute_there",479,.ref 208)::("waits_of",499,.ref 215)::("check_orders",505,.ref 220)::("in_turn",514,.ref 227)::("freed",520,.ref 232)::("held_by",526,.ref 237)::("ring_of",532,.ref 242)::t
noncomputable def Ia (t:List (Str×Nat×Value)):List (Str×Nat×Value):=("least_table",546,.ref 249)::("least_enters",552,.ref 254)::("table_of",558,.ref 259)::("row_of",564,.ref 264)::("_law_drawn",577,.ref 271)::("_law_whole",584,.ref 278)::("_law_row",593,.ref 285)::t
noncomputable def Ic (t:List (Str×Nat×Value)):List (Str×Nat×Value):=("_law_rows",602,.ref 292)::("_law_line_by",608,.ref 297)::("_law_trains_by",622,.ref 304)::("_law_way",628,.ref 309)::("_law_users",634,.ref 314)::("_law_first_come",640,.ref 319)::("law",646,.ref 324)::t
noncomputable def Ea (P:Params) :Obj×Obj×Obj×Obj×Obj×Obj×Obj×Obj:=(kd P (HV (HW (HX (HY (HZ (H_ (Ia (Ic [])))))))) 56,kd P (("__module__",196,.str "haltline.errors" 187)::("__firstlineno__",200,.int 2 199)::("__static_attributes__",201,.ref 22)::("__weakref__",203,.ref 25)::("__doc__",204,.none)::[]) 3,⟨.type "type",none,.cls ⟨"HaltError",[.type "ValueError"],[.ref 24,.type "ValueError",.type "Exception",.type "BaseException",.type "object"],23,"HaltError",true,[],[.ref 37,.ref 49,.ref 61,.ref 73],false,none,false⟩,#[some (.ref 15),none,some (.str "HaltError" 189),some (.str "HaltError" 197),some (.builtin "ValueError.__new__"),some (.bool true)]⟩,kd P (("__module__",214,.str "haltline.errors" 187)::("__firstlineno__",218,.int 4 217)::("__static_attributes__",219,.ref 35)::("__doc__",220,.none)::[]) 2,⟨.type "type",none,.cls ⟨"BadLine",[.ref 24],[.ref 37,.ref 24,.type "ValueError",.type "Exception",.type "BaseException",.type "object"],36,"BadLine",true,[],[],false,none,false⟩,#[some (.ref 28),none,some (.str "BadLine" 207),some (.str "BadLine" 215),some (.builtin "ValueError.__new__"),some (.bool true)]⟩,kd P (("__module__",230,.str "haltline.errors" 187)::("__firstlineno__",234,.int 6 233)::("__static_attributes__",235,.ref 47)::("__doc__",236,.none)::[]) 2,⟨.type "type",none,.cls ⟨"BadTrains",[.ref 24],[.ref 49,.ref 24,.type "ValueError",.type "Exception",.type "BaseException",.type "object"],48,"BadTrains",true,[],[],false,none,false⟩,#[some (.ref 40),none,some (.str "BadTrains" 223),some (.str "BadTrains" 231),some (.builtin "ValueError.__new__"),some (.bool true)]⟩,kd P (("__module__",246,.str "haltline.errors" 187)::("__firstlineno__",250,.int 8 249)::("__static_attributes__",251,.ref 59)::("__doc__",252,.none)::[]) 2)
noncomputable def Eb (P:Params) :Obj×Obj×Obj×Obj×Obj×Obj×Obj×Obj:=(⟨.type "type",none,.cls ⟨"BadOrders",[.ref 24],[.ref 61,.ref 24,.type "ValueError",.type "Exception",.type "BaseException",.type "object"],60,"BadOrders",true,[],[],false,none,false⟩,#[some (.ref 52),none,some (.str "BadOrders" 239),some (.str "BadOrders" 247),some (.builtin "ValueError.__new__"),some (.bool true)]⟩,kd P (("__module__",262,.str "haltline.errors" 187)::("__firstlineno__",266,.int 10 265)::("__static_attributes__",267,.ref 71)::("__doc__",268,.none)::[]) 2,⟨.type "type",none,.cls ⟨"BadTable",[.ref 24],[.ref 73,.ref 24,.type "ValueError",.type "Exception",.type "BaseException",.type "object"],72,"BadTable",true,[],[],false,none,false⟩,#[some (.ref 64),none,some (.str "BadTable" 255),some (.str "BadTable" 263),some (.builtin "ValueError.__new__"),some (.bool true)]⟩,kc "__init__" "Line.__init__" 295 20 3 3 83 181 301,kf "__init__" "Line.__init__" (jQ (top 12) 0) "haltline.line" 271 88,kc "runs" "Line.runs" 304 25 1 3 90 181 308,kf "runs" "Line.runs" (jQ (top 12) 1) "haltline.line" 271 95,kc "clear" "Line.clear" 311 28 1 3 97 181 315)
noncomputable def Ec (P:Params) :Obj×Obj×Obj×Obj×Obj×Obj×Obj×Obj:=(kf "clear" "Line.clear" (jQ (top 12) 2) "haltline.line" 271 102,kd P (("__module__",290,.str "haltline.line" 271)::("__firstlineno__",294,.int 18 293)::("__init__",303,.ref 89)::("runs",310,.ref 96)::("clear",317,.ref 103)::("__static_attributes__",320,.ref 104)::("__dict__",322,.ref 107)::("__weakref__",324,.ref 108)::("__doc__",325,.none)::[]) 4,⟨.type "type",none,.cls ⟨"Line",[.type "object"],[.ref 106,.type "object"],105,"Line",true,[],[],false,none,false⟩,#[none,none,some (.str "Line" 283),some (.str "Line" 291),some (.builtin "object.__new__"),some (.bool true)]⟩,kc "check_line" "check_line" 328 30 2 3 111 181 334,kf "check_line" "check_line" (top 13) "haltline.line" 271 116,kc "way" "way" 337 38 2 3 118 181 344,kf "way" "way" (top 14) "haltline.line" 271 123,kc "check_train" "check_train" 347 45 2 3 125 181 355)
noncomputable def Ed (P:Params) :Obj×Obj×Obj×Obj×Obj×Obj×Obj×Obj:=(kf "check_train" "check_train" (top 15) "haltline.line" 271 130,kn "ways" "ways" 358 57 2 3 132 181 361,kf "ways" "ways" (top 16) "haltline.line" 271 135,kc "keeps" "keeps" 366 62 3 3 137 181 373,kf "keeps" "keeps" (top 18) "haltline.tables" 364 142,kn "orders_of" "orders_of" 376 67 3 3 144 181 379,kf "orders_of" "orders_of" (top 19) "haltline.tables" 364 147,kc "check_table" "check_table" 382 71 3 3 149 181 388)
noncomputable def Ee (P:Params) :Obj×Obj×Obj×Obj×Obj×Obj×Obj×Obj:=(kf "check_table" "check_table" (top 20) "haltline.tables" 364 154,kn "is_whole" "is_whole" 391 74 2 3 156 181 394,kf "is_whole" "is_whole" (top 21) "haltline.tables" 364 159,kc "all_in_time" "all_in_time" 397 76 4 3 161 181 410,kf "all_in_time" "all_in_time" (top 22) "haltline.tables" 364 166,kc "all_apart" "all_apart" 413 85 3 3 168 181 425,kf "all_apart" "all_apart" (top 23) "haltline.tables" 364 173,kn "order_on" "order_on" 428 93 3 3 175 181 431)
noncomputable def Ef (P:Params) :Obj×Obj×Obj×Obj×Obj×Obj×Obj×Obj:=(kf "order_on" "order_on" (top 24) "haltline.tables" 364 178,kc "entries_on" "entries_on" 434 95 3 3 180 181 445,kf "entries_on" "entries_on" (top 25) "haltline.tables" 364 185,kn "first_come" "first_come" 450 103 2 3 187 181 453,kf "first_come" "first_come" (top 27) "haltline.plans" 448 190,kn "next_entries" "next_entries" 456 112 4 3 192 181 459,kf "next_entries" "next_entries" (top 28) "haltline.plans" 448 195,kn "soonest_enter" "soonest_enter" 462 115 5 3 197 181 465)
noncomputable def kk6 (P:Params) :Obj×Obj×Obj×Obj×Obj×Obj×Obj×Obj:=(kf "soonest_enter" "soonest_enter" (top 29) "haltline.plans" 448 200,kc "minute_there" "minute_there" 468 120 5 3 202 181 477,kf "minute_there" "minute_there" (top 30) "haltline.plans" 448 207,kc "waits_of" "waits_of" 482 126 3 3 209 181 497,kf "waits_of" "waits_of" (top 32) "haltline.waits" 480 214,kn "check_orders" "check_orders" 500 140 3 3 216 181 503,kf "check_orders" "check_orders" (top 33) "haltline.waits" 480 219,kc "in_turn" "in_turn" 506 147 1 3 221 181 512)
noncomputable def Eg (P:Params) :Obj×Obj×Obj×Obj×Obj×Obj×Obj×Obj:=(kf "in_turn" "in_turn" (top 34) "haltline.waits" 480 226,kn "freed" "freed" 515 154 2 3 228 181 518,kf "freed" "freed" (top 35) "haltline.waits" 480 231,kn "held_by" "held_by" 521 156 3 3 233 181 524,kf "held_by" "held_by" (top 36) "haltline.waits" 480 236,kn "ring_of" "ring_of" 527 158 2 3 238 181 530,kf "ring_of" "ring_of" (top 37) "haltline.waits" 480 241,kc "least_table" "least_table" 535 166 3 3 243 181 544)
noncomputable def Eh (P:Params) :Obj×Obj×Obj×Obj×Obj×Obj×Obj×Obj:=(kf "least_table" "least_table" (top 39) "haltline.times" 533 248,kn "least_enters" "least_enters" 547 173 3 3 250 181 550,kf "least_enters" "least_enters" (top 40) "haltline.times" 533 253,kn "table_of" "table_of" 553 179 2 3 255 181 556,kf "table_of" "table_of" (top 41) "haltline.times" 533 258,kn "row_of" "row_of" 559 181 3 3 260 181 562,kf "row_of" "row_of" (top 42) "haltline.times" 533 263,kc "_law_drawn" "_law_drawn" 567 184 3 3 265 181 575)
noncomputable def Ei (P:Params) :Obj×Obj×Obj×Obj×Obj×Obj×Obj×Obj:=(kf "_law_drawn" "_law_drawn" (top 44) "law_haltline_k09_whole_first_come" 565 270,kc "_law_whole" "_law_whole" 578 191 1 3 272 181 582,kf "_law_whole" "_law_whole" (top 45) "law_haltline_k09_whole_first_come" 565 277,kc "_law_row" "_law_row" 585 193 2 3 279 181 591,kf "_law_row" "_law_row" (top 46) "law_haltline_k09_whole_first_come" 565 284,kc "_law_rows" "_law_rows" 594 200 2 3 286 181 600,kf "_law_rows" "_law_rows" (top 47) "law_haltline_k09_whole_first_come" 565 291,kn "_law_line_by" "_law_line_by" 603 207 2 3 293 181 606)
noncomputable def tS (P:Params) :Obj×Obj×Obj×Obj×Obj×Obj×Obj×Obj:=(kf "_law_line_by" "_law_line_by" (top 48) "law_haltline_k09_whole_first_come" 565 296,kc "_law_trains_by" "_law_trains_by" 609 211 4 3 298 181 620,kf "_law_trains_by" "_law_trains_by" (top 49) "law_haltline_k09_whole_first_come" 565 303,kn "_law_way" "_law_way" 623 221 1 3 305 181 626,kf "_law_way" "_law_way" (top 50) "law_haltline_k09_whole_first_come" 565 308,kn "_law_first_come" "_law_first_come" 635 227 3 3 315 181 638,kf "_law_first_come" "_law_first_come" (top 52) "law_haltline_k09_whole_first_come" 565 318,kn "law" "law" 641 242 1 3 320 181 644)
noncomputable def Jr (P:Params) :Obj:=kf "law" "law" (top 53) "law_haltline_k09_whole_first_come" 565 323
noncomputable def KK (P:Params):W.Frag:=
 (nat_lit 3,(Ea P).1) ::
 (nat_lit 23,(Ea P).2.1) ::
 (nat_lit 24,(Ea P).2.2.1) ::
 (nat_lit 36,(Ea P).2.2.2.1) ::
 (nat_lit 37,(Ea P).2.2.2.2.1) ::
 (nat_lit 48,(Ea P).2.2.2.2.2.1) ::
 (nat_lit 49,(Ea P).2.2.2.2.2.2.1) ::
 (nat_lit 60,(Ea P).2.2.2.2.2.2.2) ::
 (nat_lit 61,(Eb P).1) ::
 (nat_lit 72,(Eb P).2.1) ::
 (nat_lit 73,(Eb P).2.2.1) ::
 (nat_lit 88,(Eb P).2.2.2.1) ::
 (nat_lit 89,(Eb P).2.2.2.2.1) ::
 (nat_lit 95,(Eb P).2.2.2.2.2.1) ::
 (nat_lit 96,(Eb P).2.2.2.2.2.2.1) ::
 (nat_lit 102,(Eb P).2.2.2.2.2.2.2) ::
 (nat_lit 103,(Ec P).1) ::
 (nat_lit 105,(Ec P).2.1) ::
 (nat_lit 106,(Ec P).2.2.1) ::
 (nat_lit 116,(Ec P).2.2.2.1) ::
 (nat_lit 117,(Ec P).2.2.2.2.1) ::
 (nat_lit 123,(Ec P).2.2.2.2.2.1) ::
 (nat_lit 124,(Ec P).2.2.2.2.2.2.1) ::
 (nat_lit 130,(Ec P).2.2.2.2.2.2.2) ::
 (nat_lit 131,(Ed P).1) ::
 (nat_lit 135,(Ed P).2.1) ::
 (nat_lit 136,(Ed P).2.2.1) ::
 (nat_lit 142,(Ed P).2.2.2.1) ::
 (nat_lit 143,(Ed P).2.2.2.2.1) ::
 (nat_lit 147,(Ed P).2.2.2.2.2.1) ::
 (nat_lit 148,(Ed P).2.2.2.2.2.2.1) ::
 (nat_lit 154,(Ed P).2.2.2.2.2.2.2) ::
 (nat_lit 155,(Ee P).1) ::
 (nat_lit 159,(Ee P).2.1) ::
 (nat_lit 160,(Ee P).2.2.1) ::
 (nat_lit 166,(Ee P).2.2.2.1) ::
 (nat_lit 167,(Ee P).2.2.2.2.1) ::
 (nat_lit 173,(Ee P).2.2.2.2.2.1) ::
 (nat_lit 174,(Ee P).2.2.2.2.2.2.1) ::
 (nat_lit 178,(Ee P).2.2.2.2.2.2.2) ::
 (nat_lit 179,(Ef P).1) ::
 (nat_lit 185,(Ef P).2.1) ::
 (nat_lit 186,(Ef P).2.2.1) ::
 (nat_lit 190,(Ef P).2.2.2.1) ::
 (nat_lit 191,(Ef P).2.2.2.2.1) ::
 (nat_lit 195,(Ef P).2.2.2.2.2.1) ::
 (nat_lit 196,(Ef P).2.2.2.2.2.2.1) ::
 (nat_lit 200,(Ef P).2.2.2.2.2.2.2) ::
 (nat_lit 201,(kk6 P).1) ::
 (nat_lit 207,(kk6 P).2.1) ::
 (nat_lit 208,(kk6 P).2.2.1) ::
 (nat_lit 214,(kk6 P).2.2.2.1) ::
 (nat_lit 215,(kk6 P).2.2.2.2.1) ::
 (nat_lit 219,(kk6 P).2.2.2.2.2.1) ::
 (nat_lit 220,(kk6 P).2.2.2.2.2.2.1) ::
 (nat_lit 226,(kk6 P).2.2.2.2.2.2.2) ::
 (nat_lit 227,(Eg P).1) ::
 (nat_lit 231,(Eg P).2.1) ::
 (nat_lit 232,(Eg P).2.2.1) ::
 (nat_lit 236,(Eg P).2.2.2.1) ::
 (nat_lit 237,(Eg P).2.2.2.2.1) ::
 (nat_lit 241,(Eg P).2.2.2.2.2.1) ::
 (nat_lit 242,(Eg P).2.2.2.2.2.2.1) ::
 (nat_lit 248,(Eg P).2.2.2.2.2.2.2) ::
 (nat_lit 249,(Eh P).1) ::
 (nat_lit 253,(Eh P).2.1) ::
 (nat_lit 254,(Eh P).2.2.1) ::
 (nat_lit 258,(Eh P).2.2.2.1) ::
 (nat_lit 259,(Eh P).2.2.2.2.1) ::
 (nat_lit 263,(Eh P).2.2.2.2.2.1) ::
 (nat_lit 264,(Eh P).2.2.2.2.2.2.1) ::
 (nat_lit 270,(Eh P).2.2.2.2.2.2.2) ::
 (nat_lit 271,(Ei P).1) ::
 (nat_lit 277,(Ei P).2.1) ::
 (nat_lit 278,(Ei P).2.2.1) ::
 (nat_lit 284,(Ei P).2.2.2.1) ::
 (nat_lit 285,(Ei P).2.2.2.2.1) ::
 (nat_lit 291,(Ei P).2.2.2.2.2.1) ::
 (nat_lit 292,(Ei P).2.2.2.2.2.2.1) ::
 (nat_lit 296,(Ei P).2.2.2.2.2.2.2) ::
 (nat_lit 297,(tS P).1) ::
 (nat_lit 303,(tS P).2.1) ::
 (nat_lit 304,(tS P).2.2.1) ::
 (nat_lit 308,(tS P).2.2.2.1) ::
 (nat_lit 309,(tS P).2.2.2.2.1) ::
 (nat_lit 318,(tS P).2.2.2.2.2.1) ::
 (nat_lit 319,(tS P).2.2.2.2.2.2.1) ::
 (nat_lit 323,(tS P).2.2.2.2.2.2.2) ::
 (nat_lit 324,(Jr P)) ::
 []
end K09
namespace PySem.W.Fast
open PySem PySem.Challenge
abbrev pq:=pw_haltline_k09_whole_first_come
noncomputable def tw7974291042700626410:Program:=pq
theorem te7974291042700626410:pq=tw7974291042700626410:=rfl
noncomputable def tw1478293224115309196:Params→Frag:=K09.KK
theorem te1478293224115309196:K09.KK=tw1478293224115309196:=rfl
noncomputable def vq:Program:={ (rw_haltline_k09_whole_first_come.row.toRowW).1 with main:={ (rw_haltline_k09_whole_first_come.row.toRowW).1.main with body:=([1,2,3,4,5,7,8,9,10,11,12,13,14,15,16,18,19,20,21,22,23,24,25,27,28,29,30,32,33,34,35,36,37,39,40,41,42,44,45,46,47,48,49,50,51,52,53]:List Nat).map fun i => pq.main.body.getD i (.Pass ⟨0,0,0,0⟩) } }
noncomputable def tw13620504534531023589:Program:=vq
theorem te13620504534531023589:vq=tw13620504534531023589:=rfl
noncomputable def sq (a n:Nat):List Stmt:=(pq.main.body.drop a).take n
noncomputable def tw17767210862278595721:List Stmt:=(sq 0 2)
theorem te17767210862278595721:(sq 0 2)=tw17767210862278595721:=rfl
noncomputable def tw4309848309991815952:List Stmt:=(sq 2 1)
theorem te4309848309991815952:(sq 2 1)=tw4309848309991815952:=rfl
noncomputable def tw475423384816809243:List Stmt:=(sq 3 1)
theorem te475423384816809243:(sq 3 1)=tw475423384816809243:=rfl
noncomputable def tw14373955792703084609:List Stmt:=(sq 4 1)
theorem te14373955792703084609:(sq 4 1)=tw14373955792703084609:=rfl
noncomputable def tw8874248238405984877:List Stmt:=(sq 5 7)
theorem te8874248238405984877:(sq 5 7)=tw8874248238405984877:=rfl
noncomputable def tw1447753974423496650:List Stmt:=(sq 12 4)
theorem te1447753974423496650:(sq 12 4)=tw1447753974423496650:=rfl
noncomputable def tw17888981302724291523:List Stmt:=(sq 16 14)
theorem te17888981302724291523:(sq 16 14)=tw17888981302724291523:=rfl
noncomputable def tw16536969532695388102:List Stmt:=(sq 30 15)
theorem te16536969532695388102:(sq 30 15)=tw16536969532695388102:=rfl
noncomputable def tw7610179035560721008:List Stmt:=(sq 45 9)
theorem te7610179035560721008:(sq 45 9)=tw7610179035560721008:=rfl
def tw1406316148169633497:=0
def tw12498038863392632644:=0
def tw11032093225999935375:=0
def tw10222067445471097666:=0
def tw4256274913924942858:=0
def tw18302010673040491212:=0
def tw14985434125023665176:=0
def tw13358492646791400931:=0
end PySem.W.Fast
open PySem PySem.W PyProof.Rows
set_option maxRecDepth 100000 in
set_option maxHeartbeats 0 in
theorem PySem.Challenge.cw_haltline_k09_whole_first_come_holds : PySem.Challenge.rw_haltline_k09_whole_first_come.Holds := by
 w_on;o_law;(o_head (kHook K09.KK (3::23::24::36::37::48::49::60::61::72::73::88::89::95::96::102::103::105::106::116::117::123::124::130::131::135::136::142::143::147::148::154::155::159::160::166::167::173::174::178::179::185::186::190::191::195::196::200::201::207::208::214::215::219::220::226::227::231::232::236::237::241::242::248::249::253::254::258::259::263::264::270::271::277::278::284::285::291::292::296::297::303::304::308::309::318::319::323::324::[]) (fun _=>by kernel_rfl)));(case hw=>w_witness2)
 k_fill
 refine L2.zS 8 (l:=PySem.Challenge.rw_haltline_k09_whole_first_come) ⟨rfl,by decide,by decide⟩ rfl rfl (fun w h Y=>PySem.W.kIn_of Y) ?F
 case F=>
  intro w mg fa h KX G hmg
  refine' K09.ED KX G hmg ?_ ?_ ?_ ?_ ?_ ?_ ?_ ?_ ?_ ?_ ?_ ?_ ?_ ?_ ?_ ?_ ?_ ?_ ?_ ?_ ?_ ?_ ?_ ?_ ?_ ?_ ?_ ?_ ?_ ?_ ?_ ?_ ?_ ?_ ?_ ?_ ?_ ?_ ?_ ?_ ?_ ?_ ?_ ?_ ?_ ?_ ?_ ?_ ?_ ?_ ?_ ?_ ?_ ?_ ?_ ?_ ?_ ?_ ?_ ?_ ?_ ?_ ?_ ?_ ?_ ?_
  all_goals first|k_is|exact⟨_,by k_is,_,_,_,by k_is,by k_is⟩|exact⟨_,_,_,_,_,_,_,_,_,_,_,_,_,_,_,_,by k_is,by kernel_rfl,by k_is,by kernel_rfl⟩|rfl|k_exc|decide|skip
#print axioms PySem.Challenge.cw_haltline_k09_whole_first_come_holds
